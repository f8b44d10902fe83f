import PyProof.Rows.All
import Wide.All
import OpenK.AllK
import Wide.FinOn
import PyProof.EqAt
import PyProof.EqKinds
import PyProof.TupleCall
import PyProof.CompFree
import PyProof.Cells
import KE.KDictList
import KE.KDictLaws
import Lean
import PySem.Challenge.RW_touchtree_k26_whole_sent
open PySem.W renaming Frag → Iv, findIn → Jy, emptyDict → JI, instObj → JR, keepIn → JU, fnOf → Ke, openEnds → Km, plainGet → Kn, OpenLaw → Kq, lookIn → Kt, plainGet_of → KA, WalkO → KD, callWith_K → KF
open PySem renaming PyData → Iw, sizeLine → IB, Value → IE, Shared → IG, starEach → II, wpAny_bind → IR, Addr → IS, wpAny_pure → Ja, Program → Jg, wpAny → Jp, model → Jt, FuncData → Jx, behindInMarks → Jz, compareOp → JG, Around → JH
open Option renaming bind_some → Ix, bind → IM
open List renaming length_map → Iy, getElem?_set_ne → Iz, length_append → IA, getElem?_append_left → IC, getElem?_eq_some_iff → ID, getElem?_set_self → IH, getElem?_append_right → IJ, size_toArray → IL, map_cons → IN, getElem?_map → IP, mem_cons_of_mem → IQ, mem_cons_self → IW, length_cons → IX, mem_cons → IY, length_set → IZ, getElem?_eq_getElem → Jb, mem_singleton → Jc, getElem?_eq_none → Ji, prefix_refl → Jj, getD_eq_getElem?_getD → Jn, length_reverse → Jr, map_append → Js, mem_append_right → Ju, length_drop → Jv, append_nil → JB, map_map → JE, mem_append → JF, append_assoc → JJ, replicate → JK, mem_append_left → JL, find?_cons → JM, any_cons → JN, length_filter_le → JO, mem_map → JP, set_append_right → JQ, mem_filter → JS, length_range → JT, getElem?_replicate → JV, filter_cons → JX, lookup_cons → JY, any_eq_true → JZ, mem_range → J0, length_replicate → J1, all_cons → J2, fst_mem_of_mem_zipIdx → J3, not_mem_nil → J5, mem_reverse → J6, getElem?_range → J7, prefix_append → J8, foldl_cons → J9, lookup → Ka, length_singleton → Kb, mem_of_mem_drop → Kd, filter_append → Ki, length_zipIdx → Kj, drop_eq_getElem_cons → Kk, reverse_cons → Ko, foldl_append → Kp, map_reverse → Kr, take_of_length_le → Ks, nodup_cons → Ku, map_nil → Kv, mem_of_getElem? → KB, getElem?_of_mem → KC, filterMap_cons → KG, flatMap_append → KH
open Nat renaming le_refl → IF, lt_of_lt_of_le → IV, le_trans → Jd, ne_of_lt → Je, sub_self → Jq, lt_irrefl → JW, lt_succ_self → Kc, zero_le → Kf, ne_of_gt → Kx
open PySem.Heap renaming get?_push_of_some → IK, lt_size → IU, get?_push_size → Jf
open Bool renaming false_ne_true → IT, and_eq_true → JC, and_eq_true_iff → J4, eq_iff_iff → Kw
open PySem.PyData renaming eqv → Jh, strOk → Jl, int → Jm, canLay0 → Jw, canLayAll0 → JA, depthAll → JD
open PySem.PassesOwn renaming never → Jk
open PySem.SeqAt renaming shaped → Jo
open Int renaming emod_nonneg → Kg, emod_lt_of_pos → Kl
set_option Elab.async false
set_option linter.all false
set_option maxRecDepth 100000
set_option maxHeartbeats 4000000
namespace L2.PU
open PySem PySem.W PySem.Spec PyProof.Rows
noncomputable def HLf (p q:Jg) (loose:List Str) (Xt:IG->Bool) (N:Nat) (H:PySem.W.Hook):Prop:=∀ w,(Km treeTable p w N).map (λ s=>(PySem.W.openSeen q loose (importedModules p.main.body) Xt true s,H.obs s))=some (PySem.W.openGood q loose,H.val w)
structure HK (l:Kq) (p q:Jg) (loose:List Str) (XP:(Str->Option IE)->Heap->Prop) (Xt:IG->Bool) (N:Nat) where
 H:PySem.W.Hook
 d:DefRec
 dd:d.params.defaults=[]
 dn:d.name = "law"
 go:(∀ H',H'=H->HLf p q loose Xt N H'/\KD q loose XP H'.says l.row.toRowW d [] (λ f vs=>PySem.call f vs))->l.Holds
noncomputable def hk_mk {l:Kq} {p q:Jg} {loose:List Str} {XP:(Str->Option IE)->Heap->Prop} {Xt:IG->Bool} {N:Nat} {H:PySem.W.Hook} {d:DefRec} (dd:d.params.defaults=[]) (dn:d.name = "law")
  (go:(∀ H',H'=H->HLf p q loose Xt N H'/\KD q loose XP H'.says l.row.toRowW d [] (λ f vs=>PySem.call f vs))->l.Holds):HK l p q loose XP Xt N:=⟨H,d,dd,dn,go⟩
theorem Ha {l:Kq} {p q:Jg} {loose:List Str} {XP:(Str->Option IE)->Heap->Prop} {Xt:IG->Bool} {N:Nat} (k:HK l p q loose XP Xt N) (h1:∀ w,(Km treeTable p w N).map (λ s=>PySem.W.openSeen q loose (importedModules p.main.body) Xt true s)=some (PySem.W.openGood q loose))
  (h2:∀ w,(Km treeTable p w N).map (λ s=>k.H.obs s)=some (k.H.val w)) (h3:KD q loose XP k.H.says l.row.toRowW k.d [] (λ f vs=>PySem.call f vs)):l.Holds :=
 k.go λ H' e=>by
  subst e;refine ⟨λ w=>?_,h3⟩;have a:=h1 w;have b:=h2 w;cases o:Km treeTable p w N with
  | none=>rw [o] at a; cases a
  | some s =>
   rw [o] at a b;have a':=Option.some.inj a;have b':=Option.some.inj b;show some (_,_)=some (_,_);dsimp only at a' b';rw [a',b']
theorem tx_mk {H:PySem.W.Hook} {K:Params->Iv} {T:Iv->(Str->Option IE)->Prop} (hY:∀ w h,H.says w h->(K w.params).In h) (tx:∀ (P:Params) (mg:Str->Option IE) (h:Heap),(K P).In h->h.Ns mainGlobals mg->T (K P) mg) :
  ∃ K:Params->Iv,(∀ w h,H.says w h->(K w.params).In h)/\∀ (P:Params) (mg:Str->Option IE) (h:Heap),(K P).In h->h.Ns mainGlobals mg->T (K P) mg:=⟨K,hY,tx⟩
end L2.PU
section
open PySem PySem.W PyProof.Rows
noncomputable def K26.view:Jg:={ PySem.Challenge.pw_touchtree_k26_whole_sent with main:={ PySem.Challenge.pw_touchtree_k26_whole_sent.main with body:=[52,43,35,22,5,1].foldl (λ l i=>l.eraseIdx i) PySem.Challenge.pw_touchtree_k26_whole_sent.main.body } }
set_option hygiene false in
local macro_rules
 | `(tactic| o_head $H)=>`(tactic| (
   refine holds_open (q:=K26.view) (loose:=["cut_scenes"]) (Xt:=(λ s=>xlAt K26.view [] s&&recOk (RowW.records (OpenRow.toRowW (OpenLaw.row PySem.Challenge.rw_touchtree_k26_whole_sent))) s)) (XP:=XL K26.view []) (Yf:=Hook.obs $H) (Ya:=Hook.val $H) (YP:=Hook.says $H) (N:=6996) (k $H rfl).1 (Hook.of $H) (Hook.keeps $H) (λ s e=>xl_of s (J4.mp e).1) XL.keeps (by rfl) (by rfl) (by rfl) (λ s e=>recFacts_of (J4.mp e).2) (by rfl) (by assumption) (by decide +kernel) ⟨rfl,rfl,rfl,rfl,rfl,by decide +kernel⟩ ?hw (k $H rfl).2))
set_option maxRecDepth 100000 in
set_option maxHeartbeats 0 in
noncomputable def K26.hk:L2.PU.HK PySem.Challenge.rw_touchtree_k26_whole_sent PySem.Challenge.pw_touchtree_k26_whole_sent K26.view ["cut_scenes"] (XL K26.view []) (λ s=>xlAt K26.view [] s&&recOk (RowW.records (OpenRow.toRowW (OpenLaw.row PySem.Challenge.rw_touchtree_k26_whole_sent))) s) 6996:=by
 refine' L2.PU.hk_mk ?dd ?dn (λ k=>?go)
 (case go =>
  w_on; o_law; k_head; (case hw=>w_witness2))
 (case dd=>rfl)
 (case dn=>rfl)
theorem L2.PU.hl4 {q:Jg} {loose mods:List Str} {Xt:IG->Bool} {o:Option IG}
 (a:o.map (λ s=>(seen ((recsOf q).map (·.name)) (ownsOf q) [] { s with gens:=#[] },s.heap.bltView,tablesOk q s.heap,pinSeenD q (drecsOf q) s))=some (expectedOf q,bltViewBooted,true,pinGoodD (drecsOf q)))
 (b:o.map (λ s=>(plainSeenE q (looseW q loose) s,s.heap.accountedOkI mods,Xt s,s.gens.size==0))=some (plainGoodE q (looseW q loose),true,true,true))
 (c:o.map (λ s=>(s.heap.keysOk (looseW q loose) ((recsOf q).map (·.name)) ((litsOf q).map (·.1)) ((clssOf q (looseW q loose)).map (·.name)),s.heap.isNs mainGlobals,s.heap.isNs builtinsNs,plainSeenD q loose s,clsSeenW q loose s))=some (true,true,true,plainGoodD q loose,clsGoodW q loose))
 (d:o.map (λ s=>(tabsOk q s,wideSeen q s))=some (true,wideGood q)) :
 o.map (λ s=>openSeen q loose mods Xt true s)=some (openGood q loose):=by
 cases o with
 | none=>cases a
 | some s =>
  have a:=Option.some.inj a; have b:=Option.some.inj b; have c:=Option.some.inj c; have d:=Option.some.inj d;simp only [Prod.mk.injEq] at a b c d;obtain ⟨a1,a2,a3,a4⟩:=a; obtain ⟨b1,b2,b3,b4⟩:=b; obtain ⟨c1,c2,c3,c4,c5⟩:=c; obtain ⟨d1,d2⟩:=d;refine congrArg some ?_;show openSeen q loose mods Xt true s=openGood q loose;unfold openSeen openGood;rw [a1,a2,a3,a4,b1,b2,b3,c1,c2,c3,c4,c5,d1,d2,if_pos rfl,b4];rfl
set_option maxRecDepth 100000 in
set_option maxHeartbeats 0 in
theorem K26.hlA' (w:World):(openEnds treeTable PySem.Challenge.pw_touchtree_k26_whole_sent w 6996).map (λ s=>(seen ((recsOf K26.view).map (·.name)) (ownsOf K26.view) [] { s with gens:=#[] },s.heap.bltView,tablesOk K26.view s.heap,pinSeenD K26.view (drecsOf K26.view) s))=some (expectedOf K26.view,bltViewBooted,true,pinGoodD (drecsOf K26.view)):=by
 unfold openEnds fencedOpening topFrom; rewrite [PySem.W.Fast.te10274390034422433532,PySem.W.Fast.te14082659384304107361,PySem.W.Fast.te14364793385576792824,PySem.W.Fast.te14289696077712309145,PySem.W.Fast.te1435165496053646825]; kernel_rfl
set_option maxRecDepth 100000 in
set_option maxHeartbeats 0 in
theorem K26.hlB' (w:World):(openEnds treeTable PySem.Challenge.pw_touchtree_k26_whole_sent w 6996).map (λ s=>(plainSeenE K26.view (looseW K26.view ["cut_scenes"]) s,s.heap.accountedOkI (importedModules PySem.Challenge.pw_touchtree_k26_whole_sent.main.body),(λ s=>xlAt K26.view [] s&&recOk (RowW.records (OpenRow.toRowW (OpenLaw.row PySem.Challenge.rw_touchtree_k26_whole_sent))) s) s,s.gens.size==0))=some (plainGoodE K26.view (looseW K26.view ["cut_scenes"]),true,true,true):=by
 unfold openEnds fencedOpening topFrom; rewrite [PySem.W.Fast.te10274390034422433532,PySem.W.Fast.te14082659384304107361,PySem.W.Fast.te14364793385576792824,PySem.W.Fast.te14289696077712309145,PySem.W.Fast.te1435165496053646825]; kernel_rfl
set_option maxRecDepth 100000 in
set_option maxHeartbeats 0 in
theorem K26.hlC' (w:World):(openEnds treeTable PySem.Challenge.pw_touchtree_k26_whole_sent w 6996).map (λ s=>(s.heap.keysOk (looseW K26.view ["cut_scenes"]) ((recsOf K26.view).map (·.name)) ((litsOf K26.view).map (·.1)) ((clssOf K26.view (looseW K26.view ["cut_scenes"])).map (·.name)),s.heap.isNs mainGlobals,s.heap.isNs builtinsNs,plainSeenD K26.view ["cut_scenes"] s,clsSeenW K26.view ["cut_scenes"] s))=some (true,true,true,plainGoodD K26.view ["cut_scenes"],clsGoodW K26.view ["cut_scenes"]):=by
 unfold openEnds fencedOpening topFrom; rewrite [PySem.W.Fast.te10274390034422433532,PySem.W.Fast.te14082659384304107361,PySem.W.Fast.te14364793385576792824,PySem.W.Fast.te14289696077712309145,PySem.W.Fast.te1435165496053646825]; kernel_rfl
set_option maxRecDepth 100000 in
set_option maxHeartbeats 0 in
theorem K26.hlD' (w:World):(openEnds treeTable PySem.Challenge.pw_touchtree_k26_whole_sent w 6996).map (λ s=>(tabsOk K26.view s,wideSeen K26.view s))=some (true,wideGood K26.view):=by
 unfold openEnds fencedOpening topFrom; rewrite [PySem.W.Fast.te10274390034422433532,PySem.W.Fast.te14082659384304107361,PySem.W.Fast.te14364793385576792824,PySem.W.Fast.te14289696077712309145,PySem.W.Fast.te1435165496053646825]; kernel_rfl
theorem K26.hlA (w:World):(openEnds treeTable PySem.Challenge.pw_touchtree_k26_whole_sent w 6996).map (λ s=>openSeen K26.view ["cut_scenes"] (importedModules PySem.Challenge.pw_touchtree_k26_whole_sent.main.body) (λ s=>xlAt K26.view [] s&&recOk (RowW.records (OpenRow.toRowW (OpenLaw.row PySem.Challenge.rw_touchtree_k26_whole_sent))) s) true s)=some (openGood K26.view ["cut_scenes"]) :=
 L2.PU.hl4 (K26.hlA' w) (K26.hlB' w) (K26.hlC' w) (K26.hlD' w)
set_option maxRecDepth 100000 in
set_option maxHeartbeats 0 in
theorem K26.hlB (w:World):(openEnds treeTable PySem.Challenge.pw_touchtree_k26_whole_sent w 6996).map (λ s=>K26.hk.H.obs s)=some (K26.hk.H.val w):=by
 unfold openEnds fencedOpening topFrom; rewrite [PySem.W.Fast.te10274390034422433532,PySem.W.Fast.te14082659384304107361,PySem.W.Fast.te14364793385576792824,PySem.W.Fast.te14289696077712309145,PySem.W.Fast.te1435165496053646825]; kernel_rfl
end
namespace L2
open PySem PySem.Spec PyProof.Rows
noncomputable abbrev Key:=Sum Int Str
noncomputable def va:Key->IE->Bool
 | .inl k,v=>Value.isInt k v
 | .inr x,v=>Value.isStrOf x v
noncomputable def HY (w:World):Key->Int
 | .inl k=>hashInt k
 | .inr x=>hashStr w x
theorem eK:∀ {k:Key} {v:IE},va k v=true->(∃ i t,k=Sum.inl i/\v=Value.int i t)\/(∃ x t,k=Sum.inr x/\v=Value.str x t)
 | .inl i,v,h=>by
  obtain ⟨t,e⟩:=Value.isInt_shape (k:=i) (v:=v) h;exact .inl ⟨i,t,rfl,e⟩
 | .inr x,v,h=>by
  obtain ⟨t,e⟩:=Value.isStrOf_shape (x:=x) (v:=v) h;exact .inr ⟨x,t,rfl,e⟩
theorem AR (i:Int) (t:Tok):va (.inl i) (.int i t)=true:=by simp [va,Value.isInt]
theorem AQ (x:Str) (t:Tok):va (.inr x) (.str x t)=true:=by simp [va,Value.isStrOf]
theorem FX (a b:Int):decide ((Sum.inl a:Key)=Sum.inl b)=(a==b):=by
 by_cases e:a=b
 ·subst e; simp
 ·have h:¬ (Sum.inl a:Key)=Sum.inl b:=λ q=>e (Sum.inl.inj q);rw [decide_eq_false h];exact (beq_eq_false_iff_ne.mpr e).symm
theorem FU (a b:Str):decide ((Sum.inr a:Key)=Sum.inr b)=decide (a=b):=by
 by_cases e:a=b
 ·subst e; simp
 ·have h:¬ (Sum.inr a:Key)=Sum.inr b:=λ q=>e (Sum.inr.inj q);rw [decide_eq_false h,decide_eq_false e]
theorem FW (a:Int) (b:Str):decide ((Sum.inl a:Key)=Sum.inr b)=false:=decide_eq_false (λ q=>nomatch q)
theorem FV (a:Str) (b:Int):decide ((Sum.inr a:Key)=Sum.inl b)=false:=decide_eq_false (λ q=>nomatch q)
noncomputable def eG (prog:Jg) (w:World):PySem.KeyKind prog w Key where
 is:=va
 hash:=HY w
 inj:=λ v a b ha hb=>by
  rcases eK ha with ⟨i,t,rfl,rfl⟩ | ⟨x,t,rfl,rfl⟩
  ·rcases eK hb with ⟨j,u,rfl,e⟩ | ⟨y,u,rfl,e⟩
   ·injection e with e1 _; rw [e1]
   ·exact nomatch e
  ·rcases eK hb with ⟨j,u,rfl,e⟩ | ⟨y,u,rfl,e⟩
   ·exact nomatch e
   ·injection e with e1 _; rw [e1]
 byValue:=λ k v h=>by
  rcases eK h with ⟨i,t,rfl,rfl⟩ | ⟨x,t,rfl,rfl⟩ <;> rfl
 pyHash:=λ hv h=>by
  rcases eK hv with ⟨i,t,rfl,rfl⟩ | ⟨x,t,rfl,rfl⟩
  ·exact wpAny_pyHash_int h
  ·exact wpAny_pyHash_str h
 eqBool:=λ hu hv h=>by
  rcases eK hu with ⟨i,t,rfl,rfl⟩ | ⟨x,t,rfl,rfl⟩
  ·rcases eK hv with ⟨j,u,rfl,rfl⟩ | ⟨y,u,rfl,rfl⟩
   ·rw [FX] at h; exact wpAny_eqBool_int h
   ·rw [FW] at h; exact SeqAt.EqAt.int_str i t y u _ _ _ _ h
  ·rcases eK hv with ⟨j,u,rfl,rfl⟩ | ⟨y,u,rfl,rfl⟩
   ·rw [FV] at h; exact SeqAt.EqAt.str_int x t j u _ _ _ _ h
   ·rw [FU] at h; exact wpAny_eqBool_str h
 «strs»:=λ k x t v h=>by
  rcases eK h with ⟨i,u,rfl,e⟩ | ⟨y,u,rfl,e⟩
  ·exact nomatch e
  ·injection e with e1 _
   subst e1;cases v <;> rfl
theorem x9 (prog:Jg) (w:World) (i:Int) (t:Tok):(eG prog w).is (.inl i) (.int i t)=true:=AR i t
theorem xZ (prog:Jg) (w:World) (x:Str) (t:Tok):(eG prog w).is (.inr x) (.str x t)=true:=AQ x t
inductive V where
 | non | bl (b:Bool) | int (i:Int) | str (x:Str) | byt (b:Array UInt8) | flt (b:UInt64) | ref (a:IS) | ty (n:String)
 deriving DecidableEq
noncomputable def RelV:V->IE->Prop
 | .non,u=>u=Value.none
 | .bl b,u=>u=Value.bool b
 | .int i,u=>∃ t,u=Value.int i t
 | .str x,u=>∃ t,u=Value.str x t
 | .byt b,u=>∃ t,u=Value.bytes b t
 | .flt b,u=>∃ t,u=Value.float b t
 | .ref a,u=>u=Value.ref a
 | .ty n,u=>u=Value.type n
noncomputable abbrev Vals:List V->List IE->Prop:=Paired RelV
theorem Vals.length {xs:List V} {us:List IE} (r:Vals xs us):xs.length=us.length:=Paired.length r
theorem Vals.get:∀ {xs:List V} {us:List IE} {i:Nat} {x:V},Vals xs us->xs[i]?=some x->∃ u,us[i]?=some u/\RelV x u
 | _,_,_,_,.nil,e=>by simp at e
 | _,_,0,_,.cons r _,e=>by simp at e; subst e; exact ⟨_,rfl,r⟩
 | _,_,i+1,x,.cons _ t,e=>by
  obtain ⟨u,h1,h2⟩:=Vals.get (i:=i) (x:=x) t (by simpa using e);exact ⟨u,by simpa using h1,h2⟩
theorem Vals.append:∀ {xs ys:List V} {us ws:List IE},Vals xs us->Vals ys ws->Vals (xs++ys) (us++ws)
 | _,_,_,_,.nil,s=>s
 | _,_,_,_,.cons r t,s=>.cons r (Vals.append t s)
theorem Vals.take:∀ {xs:List V} {us:List IE} (n:Nat),Vals xs us->Vals (xs.take n) (us.take n)
 | _,_,0,_=>.nil
 | _,_,_+1,.nil=>.nil
 | _,_,n+1,.cons r t=>.cons r (Vals.take n t)
theorem Vals.drop:∀ {xs:List V} {us:List IE} (n:Nat),Vals xs us->Vals (xs.drop n) (us.drop n)
 | _,_,0,r=>r
 | _,_,_+1,.nil=>.nil
 | _,_,n+1,.cons _ t=>Vals.drop n t
noncomputable def RelO:Option V->Option IE->Prop
 | some v,some u=>RelV v u
 | none,none=>True
 | _,_=>False
noncomputable def KV {κ:Type}:List (κ×V)->List (κ×IE)->Prop:=Paired λ (p:κ×V) (q:κ×IE)=>p.1=q.1/\RelV p.2 q.2
noncomputable def kV:Key->V
 | .inl i=>.int i
 | .inr x=>.str x
inductive HO where
 | lst (xs:List V)
 | tup (xs:List V)
 | dK (kvs:List (Key×V)) | dT (kvs:List (List Key×V))
 | set (S:Int->Bool) (n:Nat)
 | ins (C dx:IS) (fs:List (Str×V))
 | own (x:IS)
 | xd (fs:List (Str×V))
 | met (f x:IS)
 | rng (lo hi:Int)
 | frz (o:Obj) (u:HO)
 | tbl (ps:Array IE)
 | ext (φ:Heap->Prop)
noncomputable abbrev Hp:=IS->Option HO
noncomputable def upd (H:Hp) (a:IS) (o:HO):Hp:=λ b=>if b=a then some o else H b
theorem aw {H:Hp} {a:IS} {o:HO}:upd H a o a=some o:=by unfold upd; rw [if_pos rfl]
theorem am {H:Hp} {a b:IS} {o:HO} (h:b≠a):upd H a o b=H b:=by unfold upd; rw [if_neg h]
theorem G1 {H:Hp} {a b:IS} {o u:HO} (h:H a=some o) (h':H b=some u) (d:o≠u):a≠b:=by
 intro e; subst e; rw [h] at h'; exact d (Option.some.inj h')
theorem aB {H:Hp} {a b:IS} {o:HO} (h:H a=some o) (h':H b=none):a≠b:=by
 intro e; subst e; rw [h] at h'; cases h'
section
variable (P:Jg) (w:World)
noncomputable def ObjOk (H:Hp) (h:Heap) (a:IS):HO->Prop
 | .lst xs=>xs.length<=IB/\∃ (its:List IE) (n:Nat),Vals xs its/\h.get? a=some { cls:=.type "list", data:=.seq its.toArray n }
 | .tup xs=>xs.length<=IB/\∃ its:List IE,Vals xs its/\IsTup h a its.toArray
 | .dK kvs=>kvs.length<=IB/\(a==sysModules)=false/\∃ vs,KV kvs vs/\h.DictOf (eG P w) a vs
 | .dT kvs=>kvs.length<=IB/\(a==sysModules)=false/\∃ xs:List (List Key×IS×IE),Paired (λ (p:List Key×V) (q:List Key×IS×IE)=>p.1=q.1/\H q.2.1=some (.tup (p.1.map kV))/\RelV p.2 q.2.2) kvs xs /\
   ∃ o es ep,h.get? a=some o/\o.ExactDict/\o.data=.dict es ep/\es.toList=xs.map (entryOfKey (tupleKind (eG P w)))/\(xs.map (·.1)).Nodup
 | .set S n=>h.SetOf (intKind P w) a S n
 | .ins C dx fs=>H dx=some (.own a)/\fs.length<=1000/\dx≠a/\h.get? a=some (JR C dx) /\
   ∃ mA,h.Ns1 dx mA/\(∀ f,RelO (fs.lookup f) (mA f))/\PySem.Within mA (fs.map (·.1))
 | .own _=>∃ o,h.get? a=some o
 | .xd fs=>∃ mA,h.Ns1 a mA/\∀ f,RelO (fs.lookup f) (mA f)
 | .rng lo hi=>∃ t u v,h.get? a=some { cls:=.type "range", data:=.fields #[.int lo t,.int hi u,.int 1 v] }
 | .frz o u=>h.get? a=some o/\ObjOk H h a u
 | .tbl ps=>h.get? a=some { cls:=.none,data:=.fields ps }
 | .met f x=>h.get? a=some (PySem.W.methodObj (.ref f) (.ref x))
 | .ext φ=>φ h/\(∃ o,h.get? a=some o)/\∀ h1 h2:Heap,φ h1->(∀ o,h1.get? a=some o->h2.get? a=some o)->φ h2
noncomputable def HOk (H:Hp) (h:Heap):Prop:=∀ a o,H a=some o->ObjOk P w H h a o
end
section
variable {P:Jg} {w:World} {H H':Hp} {h h':Heap} {a:IS} {o:HO}
theorem ObjOk.lt (x:ObjOk P w H h a o):a < h.objs.size:=by
 cases o with
 | lst xs=>obtain ⟨_,_,_,_,e⟩:=x; exact IU e
 | tup xs=>obtain ⟨_,_,_,p⟩:=x; exact p.lt
 | dK kvs=>obtain ⟨_,_,_,_,o,_,_,e,_⟩:=x; exact IU e
 | dT kvs=>obtain ⟨_,_,_,_,o,_,_,e,_⟩:=x; exact IU e
 | set S n=>obtain ⟨o,_,_,_,e,_⟩:=x; exact IU e
 | ins C dx fs=>obtain ⟨_,_,_,e,_⟩:=x; exact IU e
 | own y=>obtain ⟨_,e⟩:=x; exact IU e
 | xd fs=>obtain ⟨_,⟨_,_,_,e,_⟩,_⟩:=x; exact IU e
 | rng lo hi=>obtain ⟨_,_,_,e⟩:=x; exact IU e
 | frz ob u=>obtain ⟨e,_⟩:=x; exact IU e
 | tbl ps=>exact IU (show h.get? a=some _ from x)
 | met f y=>exact IU (show h.get? a=some _ from x)
 | ext φ=>obtain ⟨_,⟨_,e⟩,_⟩:=x; exact IU e
theorem Paired.mapP {α β:Type} {F G:α->β->Prop}:∀ {l₁:List α} {l₂:List β},Paired F l₁ l₂->(∀ a b,F a b->G a b)->Paired G l₁ l₂
 | _,_,.nil,_=>.nil
 | _,_,.cons r t,f=>.cons (f _ _ r) (Paired.mapP t f)
theorem ObjOk.stay (x:ObjOk P w H h a o) (k:∀ b u,(b=a\/H b=some (.own a))->h.get? b=some u->h'.get? b=some u)
  (ho:∀ b,H b=some (.own a)->H' b=some (.own a)) (ht:∀ b xs,H b=some (.tup xs)->H' b=some (.tup xs)):ObjOk P w H' h' a o:=by
 induction o with
 | lst xs=>obtain ⟨z,its,n,r,e⟩:=x; exact ⟨z,its,n,r,k _ _ (.inl rfl) e⟩
 | tup xs=>obtain ⟨z,its,r,ob,e,c⟩:=x; exact ⟨z,its,r,ob,k _ _ (.inl rfl) e,c⟩
 | dK kvs=>obtain ⟨z,y,vs,r,ob,es,ep,e,c⟩:=x; exact ⟨z,y,vs,r,ob,es,ep,k _ _ (.inl rfl) e,c⟩
 | dT kvs =>
  obtain ⟨z,y,xs,r,ob,es,ep,e,c⟩:=x;exact ⟨z,y,xs,Paired.mapP r λ p q z=>⟨z.1,ht _ _ z.2.1,z.2.2⟩,ob,es,ep,k _ _ (.inl rfl) e,c⟩
 | set S n=>obtain ⟨ob,es,ep,t,e,c⟩:=x; exact ⟨ob,es,ep,t,k _ _ (.inl rfl) e,c⟩
 | ins C dx fs =>
  obtain ⟨d,z,ne,e,mA,⟨od,es,ep,e2,c⟩,r⟩:=x;exact ⟨ho _ d,z,ne,k _ _ (.inl rfl) e,mA,⟨od,es,ep,k _ _ (.inr d) e2,c⟩,r⟩
 | own y=>obtain ⟨ob,e⟩:=x; exact ⟨ob,k _ _ (.inl rfl) e⟩
 | xd fs=>obtain ⟨mA,⟨od,es,ep,e,c⟩,r⟩:=x; exact ⟨mA,⟨od,es,ep,k _ _ (.inl rfl) e,c⟩,r⟩
 | rng lo hi=>obtain ⟨t,u,v,e⟩:=x; exact ⟨t,u,v,k _ _ (.inl rfl) e⟩
 | frz ob u ih=>obtain ⟨e,q⟩:=x; exact ⟨k _ _ (.inl rfl) e,ih q⟩
 | tbl ps =>
  have e:h.get? a=some { cls:=.none,data:=.fields ps }:=x;show h'.get? a=some { cls:=.none,data:=.fields ps };exact k a _ (.inl rfl) e
 | met f y =>
  have e:h.get? a=some (PySem.W.methodObj (.ref f) (.ref y)):=x;show h'.get? a=some (PySem.W.methodObj (.ref f) (.ref y));exact k a _ (.inl rfl) e
 | ext φ=>obtain ⟨p,⟨o,e⟩,st⟩:=x; exact ⟨st _ _ p λ o q=>k _ _ (.inl rfl) q,⟨o,k _ _ (.inl rfl) e⟩,st⟩
theorem HOk.lt (x:HOk P w H h) (e:H a=some o):a < h.objs.size:=(x a o e).lt
theorem HOk.fresh (x:HOk P w H h) (e:h.objs.size<=a):H a=none:=by
 cases q:H a with
 | none=>rfl
 | some u=>exact absurd (IV (x.lt q) e) (JW _)
theorem HOk.kept (x:HOk P w H h) (k:∀ b u,h.get? b=some u->h'.get? b=some u):HOk P w H h':=λ a o e =>
 (x a o e).stay (λ b u _ q=>k b u q) (λ _ q=>q) λ _ _ q=>q
theorem HOk.laid (x:HOk P w H h) (k:∀ b u,h.get? b=some u->h'.get? b=some u) (hp:h.objs.size<=a) (new:ObjOk P w (upd H a o) h' a o):HOk P w (upd H a o) h':=λ b u e=>by
 have hn:=x.fresh hp;by_cases hb:b=a
 ·subst hb; rw [aw] at e; cases e; exact new
 ·rw [am hb] at e;exact (x b u e).stay (λ c v _ q=>k c v q) (λ c q=>by rw [am (aB q hn)]; exact q) λ c xs q=>by rw [am (aB q hn)]; exact q
end
noncomputable def Rd (H:Hp) (a:IS) (u:HO):Prop:=H a=some u\/∃ o,H a=some (.frz o u)
theorem Rd.ok {P:Jg} {w:World} {H:Hp} {h:Heap} {a:IS} {u:HO} (r:Rd H a u) (x:HOk P w H h):ObjOk P w H h a u:=by
 rcases r with r | ⟨o,r⟩
 ·exact x a u r
 ·obtain ⟨_,q⟩:=x a _ r;exact q
noncomputable def Mut:Option HO->Prop
 | some (.lst _)=>True
 | some (.dK _)=>True
 | some (.dT _)=>True
 | some (.set _ _)=>True
 | some (.ins _ _ _)=>True
 | some (.ext _)=>True
 | _=>False
section
variable {P:Jg} {w:World} {H:Hp} {h h':Heap} {x e:IS} {o':HO}
theorem HOk.write (ok:HOk P w H h) (mu:Mut (H x)) (he:e=x\/H e=some (.own x)) (k:∀ b u,b≠e->h.get? b=some u->h'.get? b=some u) (heo:∃ u,h'.get? e=some u)
  (new:ObjOk P w (upd H x o') h' x o'):HOk P w (upd H x o') h':=λ b u q=>by
 have nown:∀ c y,H c=some (.own y)->c≠x:=λ c y r z=>by subst z; rw [r] at mu; exact mu
 have ntup:∀ c xs,H c=some (.tup xs)->c≠x:=λ c xs r z=>by subst z; rw [r] at mu; exact mu
 by_cases hb:b=x
 ·subst hb; rw [aw] at q; cases q; exact new
 ·rw [am hb] at q;by_cases hbe:b=e
  ·have q':H b=some (.own x):=by
    rcases he with z | z
    ·exact absurd (hbe.trans z) hb
    ·rw [hbe]; exact z
   rw [q] at q'; cases q';obtain ⟨v,hv⟩:=heo;exact ⟨v,by rw [hbe]; exact hv⟩
  ·refine (ok b u q).stay (λ c v hc r=>k c v ?_ r) (λ c r=>by rw [am (nown c b r)]; exact r) λ c xs r=>by rw [am (ntup c xs r)]; exact r
   rcases hc with rfl | hc
   ·exact hbe
   ·rintro rfl
    rcases he with z | z
    ·exact nown c b hc z
    ·rw [hc] at z; cases z; exact hb rfl
end
structure Un (fs ex:List IS) (H H':Hp) (h h':Heap):Prop where
 keep:∀ b o,h.get? b=some o->H b=none->b∉fs->b∉ex->h'.get? b=some o
 slot:∀ b o,h.get? b=some o->H b=none->b∈fs->b∉ex->∃ sl,h'.get? b=some { o with slots:=sl }
 free:∀ b o,h.get? b=some o->H b=none->b∉ex->H' b=none
 there:∀ b o,h.get? b=some o->b∉ex->∃ o',h'.get? b=some o'
 tups:∀ b xs,H b=some (.tup xs)->H' b=some (.tup xs)
 frzs:∀ b o u,H b=some (.frz o u)->H' b=some (.frz o u)
 tbls:∀ b ps,H b=some (.tbl ps)->∃ more,H' b=some (.tbl (ps++more))
section
variable {fs fs' ex ex':List IS} {H H1 H2:Hp} {h h1 h2 h':Heap} {a x e:IS} {o:HO}
theorem Un.any (u:Un fs ex H H1 h h1) {b:IS} {ob:Obj} (q:h.get? b=some ob) (n:H b=none) (hx:b∉ex):∃ sl,h1.get? b=some { ob with slots:=sl }:=by
 by_cases hb:b∈fs
 ·exact u.slot b ob q n hb hx
 ·exact ⟨ob.slots,u.keep b ob q n hb hx⟩
theorem Un.kept (k:∀ b u,h.get? b=some u->h'.get? b=some u):Un fs ex H H h h' :=
 ⟨λ b ob q _ _ _=>k b ob q,λ b ob q _ _ _=>⟨ob.slots,k b ob q⟩,λ _ _ _ n _=>n,λ b ob q _=>⟨ob,k b ob q⟩,λ _ _ q=>q,λ _ _ _ q=>q,λ _ ps q=>⟨#[],by rw [q]; simp⟩⟩
theorem Un.refl:Un fs ex H H h h:=Un.kept λ _ _ q=>q
theorem Un.laid (k:∀ b u,h.get? b=some u->h'.get? b=some u) (hp:h.objs.size<=a) (hn:H a=none):Un fs ex H (upd H a o) h h' where
 keep:=λ b u q _ _ _=>k b u q
 slot:=λ b u q _ _ _=>⟨u.slots,k b u q⟩
 free:=λ b u q n _=>by rw [am (Je (IV (IU q) hp))]; exact n
 there:=λ b u q _=>⟨u,k b u q⟩
 tups:=λ b xs q=>by rw [am (aB q hn)]; exact q
 frzs:=λ b u xs q=>by rw [am (aB q hn)]; exact q
 tbls:=λ b ps q=>⟨#[],by rw [am (aB q hn),q]; simp⟩
theorem Un.write (mu:Mut (H x)) (he:e=x\/H e=some (.own x)) (k:∀ b u,b≠e->h.get? b=some u->h'.get? b=some u) (heo:∃ u,h'.get? e=some u):Un fs ex H (upd H x o) h h':=by
 have hx:∀ b,H b=none->b≠x:=λ b n z=>by subst z; rw [n] at mu; exact mu
 have hb:∀ b,H b=none->b≠e:=λ b n z=>by
  subst z;rcases he with r | r
  ·exact hx b n r
  ·rw [n] at r; cases r
 have hm:∀ b u,H b=some u->¬ Mut (some u)->b≠x:=λ b u q nm z=>by subst z; rw [q] at mu; exact nm mu
 refine ⟨λ b u q n _ _=>k b u (hb b n) q,λ b u q n _ _=>⟨u.slots,k b u (hb b n) q⟩,λ b u q n _=>by rw [am (hx b n)]; exact n,λ b u q _=>?_,λ b xs q=>by rw [am (hm b _ q λ z=>z)]; exact q,λ b u xs q=>by rw [am (hm b _ q λ z=>z)]; exact q,λ b ps q=>⟨#[],by rw [am (hm b _ q λ z=>z),q]; simp⟩⟩;by_cases hbe:b=e
 ·subst hbe; exact heo
 ·exact ⟨u,k b u hbe q⟩
end
noncomputable def trk (h:Heap) (H:Hp):List IS:=(List.range h.objs.size).filter λ a=>(H a).isSome
noncomputable def xb (h:Heap) (H:Hp):Heap:=PySem.W.hideAll h (trk h H)
theorem AV (h:Heap) (H:Hp):(xb h H).objs.size=h.objs.size:=PySem.W.hideAll_size _ _
theorem Ck {h:Heap} {H:Hp} {b:IS} {o:Obj} (e:h.get? b=some o) (n:H b=none):(xb h H).get? b=some o :=
 PySem.W.hideAll_get _ e λ hm=>by
  have q:(H b).isSome=true:=(JS.mp hm).2;rw [n] at q; simp at q
theorem DI {h:Heap} {H:Hp} {b:IS} {o:Obj} (e:(xb h H).get? b=some o):h.get? b=some o/\H b=none:=by
 have e':h.get? b=some o:=PySem.W.of_hideAll (trk h H) e;refine ⟨e',?_⟩;cases q:H b with
 | none=>rfl
 | some x =>
  have hm:b∈trk h H:=JS.mpr ⟨J0.mpr (IU e'),by simp [q]⟩;have z:(xb h H).get? b=none:=PySem.W.hideAll_none (trk h H) hm;rw [z] at e; cases e
noncomputable def Eu (g h:Heap) (L:IS):List (IS×Obj):=(List.range h.objs.size).filterMap λ a=>if a=L\/(g.get? a).isSome=true then none else (h.get? a).map λ o=>(a,o)
noncomputable def rest (g h:Heap) (L d:IS):List (IS×Obj):=(Eu g h L).filter λ p=>decide (p.1≠d)
structure Mod (K:Iv) (mg:Str->Option IE) (base:Heap):Prop where
 kin:K.In base
 glob:base.Ns mainGlobals mg
 blt:∃ mb,base.Ns builtinsNs mb/\∀ x:Str,x ≠ "__name__" -> mb x=bootBuiltins x
 nolimit:base.NoLimit
structure Cx where
 prog:Jg
 w:World
 K:Iv
 mg:Str->Option IE
 base:Heap
 A:JH
 N:List Str
 s₀:IG
 H₀:Hp
 env:Env
 outer:List Env
 stack:List Env
 ex:List IS
 fn:Str->Bool
 calm:Bool
 pn:List (IS×Obj)
 xe:IE->IG->Prop
noncomputable def frs (l:List Env):List IS:=l.filterMap (·.frame)
noncomputable abbrev Cx.fs (X:Cx):List IS:=frs X.outer
noncomputable def Vis (sc:Scope) (x:Str):Prop:=sc.names.lookup x=some .local\/sc.names.lookup x=some .cell\/sc.names.lookup x=some .free
noncomputable def Loc (sc:Scope) (x:Str):Prop:=sc.names.lookup x=some .local\/sc.names.lookup x=some .cell
noncomputable def Look (env:Env) (h:Heap) (m:Str->Option IE) (x:Str) (u:IE):Prop :=
 (env.kindOf x=some .local/\m x=some u)\/((env.kindOf x=some .cell\/env.kindOf x=some .free)/\∃ c,env.cells.lookup x=some c/\h.IsCell c (some u))
structure Cx.Ok (X:Cx):Prop where
 mod:Mod X.K X.mg X.base
 kind:X.env.scope.kind=.function
 glob:X.env.globals=mainGlobals
 blt:X.env.builtins=builtinsNs
 above:X.s₀.heap.objs.size<=X.env.locals
 inj:∀ x y c,X.env.cells.lookup x=some c->X.env.cells.lookup y=some c->x=y
 has:∀ x,(X.env.kindOf x=some .cell\/X.env.kindOf x=some .free)->∃ c,X.env.cells.lookup x=some c
 cab:∀ x c,X.fn x=true->X.env.cells.lookup x=some c->X.s₀.heap.objs.size<=c
 hd:X.calm=true->X.A.handled=none
 frames:X.A.frames=some X.stack
 stk:X.stack=X.outer\/(X.stack=X.env::X.outer/\X.env.frame=some X.env.locals)
 exf:∀ b∈X.ex,b≠X.env.locals/\∀ x c,X.env.cells.lookup x=some c->c≠b
 bs:∀ b o,X.base.get? b=some o->X.s₀.heap.get? b=some o/\X.H₀ b=none
 bsz:X.base.objs.size<=X.s₀.heap.objs.size
 noex:∀ b o,X.base.get? b=some o->b∉X.ex
 exfs:∀ b∈X.ex,b∉X.fs
 funs:X.s₀.heap.FunFrames X.base X.outer
 frf:∀ b∈X.fs,X.H₀ b=none
structure Inv (X:Cx) (pins:List (IS×Obj)) (σ:List (Option V)) (H:Hp) (s:IG):Prop where
 ok:X.Ok
 os:s.os=X.s₀.os
 bare:AllBare s.gens
 base:Un X.fs X.ex X.H₀ H X.s₀.heap s.heap
 loc:∃ m,s.heap.Ns X.env.locals m/\∀ (i:Nat) (x:Str) (v:V),X.N[i]?=some x->σ[i]?=some (some v)->Vis X.env.scope x->∃ u,RelV v u/\Look X.env s.heap m x u
 cell:∀ x c,X.env.cells.lookup x=some c->∃ v,s.heap.IsCell c v
 free:H X.env.locals=none
 freeC:∀ x c,X.env.cells.lookup x=some c->H c=none
 pin:∀ p∈X.pn++pins,s.heap.get? p.1=some p.2/\H p.1=none/\p.1≠X.env.locals/\p.1∉X.fs/\∀ v,p.2.data≠.cell v
 hok:HOk X.prog X.w H s.heap
 len:σ.length=X.N.length
section
variable {X:Cx} {pins:List (IS×Obj)} {σ:List (Option V)} {H H':Hp} {s:IG} {h':Heap}
theorem Cx.Ok.nofr (ok:X.Ok) {b:IS} {o:Obj} (e:X.base.get? b=some o):b∉X.fs:=λ hb=>by
 have:=(ok.funs.mem hb).1
 rw [e] at this; cases this
theorem Inv.bs (I:Inv X pins σ H s):∀ b o,X.base.get? b=some o->s.heap.get? b=some o/\H b=none:=λ b o e =>
 ⟨I.base.keep b o (I.ok.bs b o e).1 (I.ok.bs b o e).2 (I.ok.nofr e) (I.ok.noex b o e),I.base.free b o (I.ok.bs b o e).1 (I.ok.bs b o e).2 (I.ok.noex b o e)⟩
theorem Inv.bk (I:Inv X pins σ H s):∀ b o,X.base.get? b=some o->s.heap.get? b=some o:=λ b o e=>(I.bs b o e).1
theorem Inv.mod (I:Inv X pins σ H s):Mod X.K X.mg X.base:=I.ok.mod
theorem Inv.kIn (I:Inv X pins σ H s):X.K.In s.heap:=I.ok.mod.kin.keeps I.bk
theorem Inv.lt (I:Inv X pins σ H s):X.env.locals < s.heap.objs.size:=let ⟨_,hn,_⟩:=I.loc; hn.lt
theorem Inv.sz (I:Inv X pins σ H s):X.s₀.heap.objs.size<=s.heap.objs.size:=Jd I.ok.above (Nat.le_of_lt I.lt)
theorem Inv.nofs (I:Inv X pins σ H s) {a:IS} (h:s.heap.objs.size<=a):a∉X.fs:=λ hb=>by
 obtain ⟨_,o,ho,_⟩:=I.ok.funs.mem hb;exact absurd (IV (IU ho) (Jd I.sz h)) (JW _)
theorem Inv.cne (I:Inv X pins σ H s):∀ x c,X.env.cells.lookup x=some c->c≠X.env.locals:=λ x c e z=>by
 obtain ⟨v,o,ho,hd⟩:=I.cell x c e;obtain ⟨m,⟨o',es,ep,ho',hd',_⟩,_⟩:=I.loc;rw [z,ho'] at ho; cases ho; rw [hd'] at hd; cases hd
theorem Inv.funs (I:Inv X pins σ H s):s.heap.FunFrames X.base X.outer:=by
 have all:∀ (l:List Env),(∀ b∈frs l,b∈X.fs)->X.s₀.heap.FunFrames X.base l->s.heap.FunFrames X.base l:=by
  intro l
  induction l with
  | nil=>intro _ _; trivial
  | cons env r ih =>
   intro hs hl;obtain ⟨hk,⟨L,o,hf,hn,ho,hd⟩,hr⟩:=hl;have hL:L∈X.fs:=hs L (by unfold frs; rw [KG,hf]; exact IW);obtain ⟨sl,e⟩:=I.base.slot L o ho (I.ok.frf L hL) hL λ z=>I.ok.exfs L z hL;exact ⟨hk,⟨L,_,hf,hn,e,hd⟩,ih (λ b hb=>hs b (by unfold frs; rw [KG,hf]; exact IQ _ hb)) hr⟩
 exact all X.outer (λ _ hb=>hb) I.ok.funs
theorem Inv.stack (I:Inv X pins σ H s):s.heap.FunFrames X.base X.stack:=by
 rcases I.ok.stk with e | ⟨e,hf⟩
 ·rw [e]; exact I.funs
 ·rw [e];obtain ⟨m,hn,_⟩:=I.loc;refine .cons (by rw [I.ok.kind]; decide) hf hn ?_ I.funs;exact Heap.get?_none_of_le (Jd I.ok.bsz I.ok.above)
theorem Inv.stkSub (I:Inv X pins σ H s):∀ b∈frs X.stack,b∈X.env.locals::X.fs:=λ b hb=>by
 rcases I.ok.stk with e | ⟨e,hf⟩
 ·rw [e] at hb; exact IQ _ hb
 ·rw [e] at hb;unfold frs at hb;rw [KG,hf] at hb;exact hb
theorem Inv.stkFree (I:Inv X pins σ H s):∀ b∈frs X.stack,H b=none:=λ b hb=>by
 rcases IY.mp (I.stkSub b hb) with e | hb
 ·rw [e]; exact I.free
 ·obtain ⟨_,o,ho,_⟩:=I.ok.funs.mem hb;exact I.base.free b o ho (I.ok.frf b hb) λ z=>I.ok.exfs b z hb
theorem Inv.step {g':Array GenState} {t':Nat} {d':Drawn} {ch:List IS} (I:Inv X pins σ H s)
  (hch:∀ b∈ch,(b∈X.ex\/X.s₀.heap.objs.size<=b)/\b≠X.env.locals/\(∀ x c,X.env.cells.lookup x=some c->c≠b)/\∀ p∈X.pn++pins,p.1≠b)
  (keep:∀ b o,b≠X.env.locals->b∉X.fs->b∉ch->s.heap.get? b=some o->H b=none->h'.get? b=some o)
  (slot:∀ b o,b≠X.env.locals->b∈X.fs->b∉ch->s.heap.get? b=some o->H b=none->∃ sl,h'.get? b=some { o with slots:=sl }) (free:∀ b o,b∉ch->s.heap.get? b=some o->H b=none->H' b=none)
  (there:∀ b o,b∉ch->s.heap.get? b=some o->∃ o',h'.get? b=some o')
  (tups:∀ b xs,H b=some (.tup xs)->H' b=some (.tup xs)) (frzs:∀ b o u,H b=some (.frz o u)->H' b=some (.frz o u)) (tbls:∀ b ps,H b=some (.tbl ps)->∃ more,H' b=some (.tbl (ps++more)))
  (ns:∀ m,s.heap.Ns X.env.locals m->h'.Ns X.env.locals m) (hok:HOk X.prog X.w H' h') (hg:AllBare g') :
  Inv X pins σ H' { s with heap:=h',gens:=g',drawn:=d',toks:=t' }:=by
 have neL:∀ b o,X.s₀.heap.get? b=some o->b≠X.env.locals:=λ b o e=>Je (IV (IU e) I.ok.above);have neC:∀ b o,X.s₀.heap.get? b=some o->b∉X.ex->b∉ch:=λ b o e hx hb=>by
  rcases (hch b hb).1 with z | z
  ·exact hx z
  ·exact absurd (IV (IU e) z) (JW _)
 have cellK:∀ x c,X.env.cells.lookup x=some c->∀ v,s.heap.IsCell c v->h'.IsCell c v:=λ x c e v ⟨o,ho,hd⟩=>by
  have nch:c∉ch:=λ z=>(hch c z).2.2.1 x c e rfl;by_cases hc:c∈X.fs
  ·obtain ⟨sl,q⟩:=slot c o (I.cne x c e) hc nch ho (I.freeC x c e);exact ⟨_,q,hd⟩
  ·exact ⟨o,keep c o (I.cne x c e) hc nch ho (I.freeC x c e),hd⟩
 refine ⟨I.ok,I.os,hg,⟨λ b o e n hb hx=>?_,λ b o e n hb hx=>?_,λ b o e n hx=>?_,λ b o e hx=>?_,λ b xs e=>tups b xs (I.base.tups b xs e),λ b o xs e=>frzs b o xs (I.base.frzs b o xs e),λ b ps e=>?_⟩,?_,λ x c e=>?_,?_,λ x c e=>?_,λ p hp=>?_,hok,I.len⟩
 ·exact keep b o (neL b o e) hb (neC b o e hx) (I.base.keep b o e n hb hx) (I.base.free b o e n hx)
 ·obtain ⟨sl,e1⟩:=I.base.slot b o e n hb hx;obtain ⟨sl',e2⟩:=slot b _ (neL b o e) hb (neC b o e hx) e1 (I.base.free b o e n hx);exact ⟨sl',e2⟩
 ·obtain ⟨o',e1⟩:=I.base.there b o e hx;exact free b o' (neC b o e hx) e1 (I.base.free b o e n hx)
 ·obtain ⟨o',e1⟩:=I.base.there b o e hx;exact there b o' (neC b o e hx) e1
 ·obtain ⟨m1,e1⟩:=I.base.tbls b ps e;obtain ⟨m2,e2⟩:=tbls b _ e1;exact ⟨m1++m2,by rw [e2,Array.append_assoc]⟩
 ·obtain ⟨m,hn,hl⟩:=I.loc;refine ⟨m,ns m hn,λ i x v e1 e2 e3=>?_⟩;obtain ⟨u,r,l⟩:=hl i x v e1 e2 e3;refine ⟨u,r,?_⟩;rcases l with l | ⟨k,c,e,z⟩
  ·exact .inl l
  ·exact .inr ⟨k,c,e,cellK x c e _ z⟩
 ·obtain ⟨v,z⟩:=I.cell x c e;exact ⟨v,cellK x c e v z⟩
 ·obtain ⟨m,⟨o,_,_,ho,_⟩,_⟩:=I.loc;exact free _ o (λ z=>(hch _ z).2.1 rfl) ho I.free
 ·obtain ⟨v,o,ho,hd⟩:=I.cell x c e;exact free c o (λ z=>(hch c z).2.2.1 x c e rfl) ho (I.freeC x c e)
 ·obtain ⟨e,n,ne,nf,d⟩:=I.pin p hp;have nch:p.1∉ch:=λ z=>(hch p.1 z).2.2.2 p hp rfl;exact ⟨keep p.1 p.2 ne nf nch e n,free p.1 p.2 nch e n,ne,nf,d⟩
theorem Inv.un {t':Nat} (I:Inv X pins σ H s) (u:Un X.fs [] H H' s.heap h') (hok:HOk X.prog X.w H' h'):Inv X pins σ H' { s with heap:=h',toks:=t' }:=by
 obtain ⟨m,⟨o,es,ep,ho,r⟩,_⟩:=id I.loc;obtain ⟨sl,hL⟩:=u.any ho I.free (by simp);exact I.step (g':=s.gens) (d':=s.drawn) (ch:=[]) (λ _ z=>nomatch z) (λ b o _ hb _ e n=>u.keep b o e n hb (by simp)) (λ b o _ hb _ e n=>u.slot b o e n hb (by simp)) (λ b o _ e n=>u.free b o e n (by simp)) (λ b o _ e=>u.there b o e (by simp)) u.tups u.frzs u.tbls (λ m' hm=>by
  obtain ⟨o',es',ep',ho',r'⟩:=hm;rw [ho] at ho'; cases ho';exact ⟨_,es',ep',hL,r'⟩) hok I.bare
theorem Inv.call {g':Array GenState} {t':Nat} {d':Drawn} {ch:List IS} (I:Inv X pins σ H s) (u:Un (frs X.stack) ch H H' s.heap h') (hok:HOk X.prog X.w H' h') (hg:AllBare g')
  (hch:∀ b∈ch,(b∈X.ex\/X.s₀.heap.objs.size<=b)/\b≠X.env.locals/\(∀ x c,X.env.cells.lookup x=some c->c≠b)/\∀ p∈X.pn++pins,p.1≠b) :
  Inv X pins σ H' { s with heap:=h',gens:=g',drawn:=d',toks:=t' }:=by
 obtain ⟨m,⟨o,es,ep,ho,r⟩,_⟩:=id I.loc;obtain ⟨sl,hL⟩:=u.any ho I.free λ z=>(hch _ z).2.1 rfl;exact I.step (ch:=ch) hch (λ b o hL hb hc e n=>u.keep b o e n (λ z=>(IY.mp (I.stkSub b z)).elim hL hb) hc) (λ b o _ _ hc e n=>u.any e n hc) (λ b o hc e n=>u.free b o e n hc) (λ b o hc e=>u.there b o e hc) u.tups u.frzs u.tbls (λ m' hm=>by
  obtain ⟨o',es',ep',ho',r'⟩:=hm;rw [ho] at ho'; cases ho';exact ⟨_,es',ep',hL,r'⟩) hok hg
theorem Inv.turned {t':Nat} {it:IS} (I:Inv X pins σ H s) (k:∀ b o,b≠it->s.heap.get? b=some o->h'.get? b=some o) (hn:H it=none) (hL:it≠X.env.locals)
  (h1:it∈X.ex\/X.s₀.heap.objs.size<=it) (h2:∀ x c,X.env.cells.lookup x=some c->c≠it) (h3:∀ p∈X.pn++pins,p.1≠it):Inv X pins σ H { s with heap:=h',toks:=t' }:=by
 have nit:∀ b u,H b=some u->b≠it:=λ b u e z=>by rw [z,hn] at e; cases e
 refine I.step (g':=s.gens) (d':=s.drawn) (ch:=[it]) (λ b hb=>?_) (λ b o _ _ hc e _=>k b o (λ z=>hc (by simp [z])) e) (λ b o _ _ hc e _=>⟨o.slots,k b o (λ z=>hc (by simp [z])) e⟩) (λ _ _ _ _ n=>n)
  (λ b o hc e=>⟨o,k b o (λ z=>hc (by simp [z])) e⟩) (λ _ _ e=>e) (λ _ _ _ e=>e) (λ b ps e=>⟨#[],by rw [e]; simp⟩) (λ m hm=>?_) (λ b u e=>?_) I.bare
 ·have e:b=it:=by simpa using hb
  subst e;exact ⟨h1,hL,h2,h3⟩
 ·obtain ⟨o,es,ep,ho,r⟩:=hm;exact ⟨o,es,ep,k _ o (Ne.symm hL) ho,r⟩
 ·refine (I.hok b u e).stay (λ c v hc q=>k c v ?_ q) (λ _ q=>q) λ _ _ q=>q;rcases hc with z | z
  ·rw [z]; exact nit b u e
  ·exact nit c _ z
theorem Inv.tok (I:Inv X pins σ H s) (t:Nat):Inv X pins σ H { s with toks:=t }:=I.un (h':=s.heap) (t':=t) Un.refl I.hok
theorem Inv.kept {t':Nat} (I:Inv X pins σ H s) (k:∀ b u,s.heap.get? b=some u->h'.get? b=some u):Inv X pins σ H { s with heap:=h',toks:=t' }:=I.un (Un.kept k) (I.hok.kept k)
theorem Inv.laid {a:IS} {o:HO} {t':Nat} (I:Inv X pins σ H s) (k:∀ b u,s.heap.get? b=some u->h'.get? b=some u) (hp:s.heap.objs.size<=a) (new:ObjOk X.prog X.w (upd H a o) h' a o) :
  Inv X pins σ (upd H a o) { s with heap:=h',toks:=t' }:=I.un (Un.laid k hp (I.hok.fresh hp)) (I.hok.laid k hp new)
theorem Inv.write {x e:IS} {o:HO} {t':Nat} (I:Inv X pins σ H s) (mu:Mut (H x)) (he:e=x\/H e=some (.own x)) (k:∀ b u,b≠e->s.heap.get? b=some u->h'.get? b=some u) (heo:∃ u,h'.get? e=some u)
  (new:ObjOk X.prog X.w (upd H x o) h' x o):Inv X pins σ (upd H x o) { s with heap:=h',toks:=t' }:=I.un (Un.write mu he k heo) (I.hok.write mu he k heo new)
theorem Inv.weak {σ':List (Option V)} (I:Inv X pins σ H s) (hl:σ'.length=σ.length) (w:∀ (i:Nat) v,σ'[i]?=some (some v)->σ[i]?=some (some v)):Inv X pins σ' H s :=
 ⟨I.ok,I.os,I.bare,I.base,let ⟨m,hn,hl'⟩:=I.loc; ⟨m,hn,λ i x v e1 e2 e3=>hl' i x v e1 (w i v e2) e3⟩,I.cell,I.free,I.freeC,I.pin,I.hok,hl.trans I.len⟩
theorem Inv.pins_of {pins':List (IS×Obj)} (I:Inv X pins σ H s) (h:∀ p∈pins',s.heap.get? p.1=some p.2/\H p.1=none/\p.1≠X.env.locals/\p.1∉X.fs/\∀ v,p.2.data≠.cell v):Inv X pins' σ H s :=
 ⟨I.ok,I.os,I.bare,I.base,I.loc,I.cell,I.free,I.freeC,λ p hp=>(JF.mp hp).elim (λ z=>I.pin p (JL _ z)) (h p),I.hok,I.len⟩
theorem xW {N:List Str} (hN:N.Nodup) {i j:Nat} {x:Str} (a:N[i]?=some x) (b:N[j]?=some x):i=j:=by
 obtain ⟨h1,e1⟩:=ID.mp a;obtain ⟨h2,e2⟩:=ID.mp b;exact (List.getElem_inj hN).mp (e1.trans e2.symm)
theorem wa {M:Model} {A:JH} {E:IE->IG->Prop} {i:Nat} {x:Str} {v:V} {u:IE} {Q:Unit->IG->Prop} (I:Inv X pins σ H s) (hN:X.N.Nodup) (hi:X.N[i]?=some x) (hx:Loc X.env.scope x) (r:RelV v u)
  (h:∀ s',Inv X pins (σ.set i (some v)) H s'->(∃ a,Heap.SameBut a s.heap s'.heap/\(a=X.env.locals\/X.env.cells.lookup x=some a))->Q () s') (hf:X.fn x=true\/X.env.scope.names.lookup x=some .local:=by first | exact .inl rfl | exact .inr rfl | assumption):Jp M A (storeName X.env x u) Q E s:=by
 obtain ⟨m,hn,hl⟩:=id I.loc;have hcls:(X.env.scope.kind==.class||(X.env.scope.kind==.module&&X.env.locals != X.env.globals))=false:=by rw [I.ok.kind]; rfl
 have hiσ:i < σ.length:=by rw [I.len]; exact (ID.mp hi).1
 have cne:=I.cne;have tracked:∀ {a:IS} {h':Heap},(∃ o,s.heap.get? a=some o/\H a=none)->Heap.SameBut a s.heap h'->HOk X.prog X.w H h':=λ {a h'} ha hs b ob e=>by
  obtain ⟨_,_,hfree⟩:=ha;refine (I.hok b ob e).stay (λ c w' hc q=>(hs.2 c ?_).trans q) (λ _ q=>q) λ _ _ q=>q
  rintro rfl
  rcases hc with rfl | hc
  ·rw [hfree] at e; cases e
  ·rw [hfree] at hc; cases hc
 rcases hx with hk | hk
 ·refine wpAny_storeName_local hk hn (λ h' hn' hs=>?_) hcls;obtain ⟨oL,_,_,hoL,_⟩:=id hn;refine h _ ⟨I.ok,I.os,I.bare,⟨λ b o e n hb hx=>?_,λ b o e n hb hx=>?_,I.base.free,λ b o e hx=>?_,I.base.tups,I.base.frzs,I.base.tbls⟩,⟨_,hn',λ j y v' e1 e2 e3=>?_⟩,λ y c e=>?_,I.free,I.freeC,λ p hp=>?_,tracked ⟨oL,hoL,I.free⟩ hs,by simpa using I.len⟩ ⟨_,hs,.inl rfl⟩
  ·exact (hs.2 b (Je (IV (IU e) I.ok.above))).trans (I.base.keep b o e n hb hx)
  ·obtain ⟨sl,e1⟩:=I.base.slot b o e n hb hx;exact ⟨sl,(hs.2 b (Je (IV (IU e) I.ok.above))).trans e1⟩
  ·obtain ⟨o',e1⟩:=I.base.there b o e hx;exact ⟨o',(hs.2 b (Je (IV (IU e) I.ok.above))).trans e1⟩
  ·by_cases hj:j=i
   ·subst hj;rw [hi] at e1; cases e1;rw [IH hiσ] at e2;cases e2;exact ⟨u,r,.inl ⟨hk,by simp⟩⟩
   ·rw [Iz (Ne.symm hj)] at e2;obtain ⟨u',r',q⟩:=hl j y v' e1 e2 e3;refine ⟨u',r',?_⟩;rcases q with ⟨k,e⟩ | ⟨k,c,e,z⟩
    ·refine .inl ⟨k,?_⟩
     have:y≠x:=λ e=>hj (xW hN e1 (e ▸ hi))
     simp [this,e]
    ·exact .inr ⟨k,c,e,z.sameBut hs (cne y c e)⟩
  ·obtain ⟨w',z⟩:=I.cell y c e;exact ⟨w',z.sameBut hs (cne y c e)⟩
  ·obtain ⟨e,n,ne,nf,d⟩:=I.pin p hp;exact ⟨(hs.2 p.1 ne).trans e,n,ne,nf,d⟩
 ·have hfn:X.fn x=true:=by
   rcases hf with z | z
   ·exact z
   ·rw [z] at hk; cases hk
  obtain ⟨c,hc⟩:=I.ok.has x (.inl hk);obtain ⟨w',z⟩:=I.cell x c hc;refine wpAny_storeName_cell I.ok.kind hk hc z (λ h' hc' hs=>?_);obtain ⟨oc,hoc,hocd⟩:=id z;refine h { s with heap:=h' } ⟨I.ok,I.os,I.bare,⟨λ b o e n hb hx=>?_,λ b o e n hb hx=>?_,I.base.free,λ b o e hx=>?_,I.base.tups,I.base.frzs,I.base.tbls⟩,⟨m,hn.sameBut hs (Ne.symm (cne x c hc)),λ j y v' e1 e2 e3=>?_⟩,λ y c' e=>?_,I.free,I.freeC,λ p hp=>?_,tracked ⟨oc,hoc,I.freeC x c hc⟩ hs,by simpa using I.len⟩ ⟨c,hs,.inr hc⟩
  ·exact (hs.2 b (Je (IV (IU e) (I.ok.cab x c hfn hc)))).trans (I.base.keep b o e n hb hx)
  ·obtain ⟨sl,e1⟩:=I.base.slot b o e n hb hx;exact ⟨sl,(hs.2 b (Je (IV (IU e) (I.ok.cab x c hfn hc)))).trans e1⟩
  ·obtain ⟨o',e1⟩:=I.base.there b o e hx;exact ⟨o',(hs.2 b (Je (IV (IU e) (I.ok.cab x c hfn hc)))).trans e1⟩
  ·by_cases hj:j=i
   ·subst hj;rw [hi] at e1; cases e1;rw [IH hiσ] at e2;cases e2;exact ⟨u,r,.inr ⟨.inl hk,c,hc,hc'⟩⟩
   ·rw [Iz (Ne.symm hj)] at e2;obtain ⟨u',r',q⟩:=hl j y v' e1 e2 e3;refine ⟨u',r',?_⟩;rcases q with q | ⟨k,c',e,z'⟩
    ·exact .inl q
    ·refine .inr ⟨k,c',e,z'.sameBut hs ?_⟩
     rintro rfl
     exact hj (xW hN e1 (I.ok.inj _ _ _ e hc ▸ hi))
  ·by_cases hcc:c'=c
   ·subst hcc; exact ⟨_,hc'⟩
   ·obtain ⟨w2,z2⟩:=I.cell y c' e;exact ⟨w2,z2.sameBut hs hcc⟩
  ·obtain ⟨e,n,ne,nf,d⟩:=I.pin p hp;refine ⟨(hs.2 p.1 ?_).trans e,n,ne,nf,d⟩;intro q;rw [q,hoc] at e;have q':oc=p.2:=Option.some.inj e;exact d w' (by rw [<- q']; exact hocd)
theorem xH {M:Model} {A:JH} {E:IE->IG->Prop} {i:Nat} {x:Str} {v:V} {u:IE} {Q:Unit->IG->Prop} (I:Inv X pins σ H s) (hN:X.N.Nodup) (hi:X.N[i]?=some x) (hx:Loc X.env.scope x) (r:RelV v u)
  (h:∀ s',Inv X pins (σ.set i (some v)) H s'->Q () s') (hf:X.fn x=true\/X.env.scope.names.lookup x=some .local:=by first | exact .inl rfl | exact .inr rfl | assumption):Jp M A (storeName X.env x u) Q E s :=
 wa I hN hi hx r (λ s' I' _=>h s' I') hf
theorem Inv.call' {s':IG} {ch:List IS} (I:Inv X pins σ H s) (ho:s'.os=s.os) (u:Un (frs X.stack) ch H H' s.heap s'.heap) (hok:HOk X.prog X.w H' s'.heap) (hg:AllBare s'.gens)
  (hch:∀ b∈ch,(b∈X.ex\/X.s₀.heap.objs.size<=b)/\b≠X.env.locals/\(∀ x c,X.env.cells.lookup x=some c->c≠b)/\∀ p∈X.pn++pins,p.1≠b):Inv X pins σ H' s':=by
 obtain ⟨h',g',d',t',o'⟩:=s';have e:o'=s.os:=ho;subst e;exact I.call (g':=g') (t':=t') (d':=d') u hok hg hch
end
noncomputable abbrev XK:=IE->Option IS->Hp->Prop
noncomputable abbrev St:=List (Option V)
noncomputable abbrev VK:=V->Hp->Prop
noncomputable abbrev TE:=St->Hp->VK->Prop
noncomputable abbrev TT:=St->Hp->(Bool->Hp->Prop)->Prop
noncomputable abbrev TA:=St->Hp->(List V->Hp->Prop)->Prop
structure Ends where
 nx:St->Hp->Prop
 rt:VK
 bk:St->Hp->Prop:=λ _ _=>False
 ct:St->Hp->Prop:=λ _ _=>False
noncomputable abbrev TS:=Ends->St->Hp->Prop
noncomputable def EP (X:Cx) (pins:List (IS×Obj)) (σ:St) (Q:VK) (u:IE) (s':IG):Prop:=∃ v H',Inv X pins σ H' s'/\RelV v u/\Q v H'
noncomputable def TP (X:Cx) (pins:List (IS×Obj)) (σ:St) (Q:Bool->Hp->Prop) (b:Bool) (s':IG):Prop:=∃ H',Inv X pins σ H' s'/\Q b H'
noncomputable def AP (X:Cx) (pins:List (IS×Obj)) (σ:St) (Q:List V->Hp->Prop) (us:List IE) (s':IG):Prop:=∃ vs H',Inv X pins σ H' s'/\Vals vs us/\Q vs H'
noncomputable def SP (X:Cx) (pins:List (IS×Obj)) (D:Ends) (f:Flow) (s':IG):Prop :=
 match f with
 | .next=>∃ σ' H',Inv X pins σ' H' s'/\D.nx σ' H'
 | .brk=>∃ σ' H',Inv X pins σ' H' s'/\D.bk σ' H'
 | .cont=>∃ σ' H',Inv X pins σ' H' s'/\D.ct σ' H'
 | .ret u=>∃ v σ' H',Inv X pins σ' H' s'/\RelV v u/\D.rt v H'
noncomputable def PE (X:Cx) (e:Expr) (t:TE):Prop :=
 ∀ (pins:List (IS×Obj)) (s:IG) (σ:St) (H:Hp) (Q:VK),Inv X pins σ H s->t σ H Q->Jp (Jt X.prog X.w) X.A (eval e X.env) (EP X pins σ Q) X.xe s
noncomputable def PT (X:Cx) (e:Expr) (t:TT):Prop :=
 ∀ (pins:List (IS×Obj)) (s:IG) (σ:St) (H:Hp) (Q:Bool->Hp->Prop),Inv X pins σ H s->t σ H Q->Jp (Jt X.prog X.w) X.A (isTrue e X.env (eval e X.env)) (TP X pins σ Q) X.xe s
noncomputable def PW (X:Cx) (e:Expr) (t:TT):Prop :=
 ∀ (whole:Sem IE) (pins:List (IS×Obj)) (s:IG) (σ:St) (H:Hp) (Q:Bool->Hp->Prop),Inv X pins σ H s->t σ H Q->Jp (Jt X.prog X.w) X.A (isTrue e X.env whole) (TP X pins σ Q) X.xe s
theorem PW.pt {X:Cx} {e:Expr} {t:TT} (h:PW X e t):PT X e t:=h _
noncomputable def PA (X:Cx) (es:List Expr) (t:TA):Prop :=
 ∀ (pos:Pos) (pins:List (IS×Obj)) (s:IG) (σ:St) (H:Hp) (Q:List V->Hp->Prop),Inv X pins σ H s->t σ H Q->Jp (Jt X.prog X.w) X.A (spliced (backTo pos (II es X.env))) (AP X pins σ Q) X.xe s
noncomputable def PS (X:Cx) (st:Stmt) (t:TS):Prop :=
 ∀ (pins:List (IS×Obj)) (s:IG) (σ:St) (H:Hp) (D:Ends),Inv X pins σ H s->t D σ H->Jp (Jt X.prog X.w) X.A (exec st X.env) (SP X pins D) X.xe s
noncomputable def PSs (X:Cx) (st:List Stmt) (t:TS):Prop :=
 ∀ (pins:List (IS×Obj)) (s:IG) (σ:St) (H:Hp) (D:Ends),Inv X pins σ H s->t D σ H->Jp (Jt X.prog X.w) X.A (execs st X.env) (SP X pins D) X.xe s
theorem thn {α:Type} {t:Sem α} {Q Q':α->IG->Prop} {M:Model} {A:JH} {E:IE->IG->Prop} {s:IG} (h:Jp M A t Q E s) (hQ:∀ a s,Q a s->Q' a s):Jp M A t Q' E s:=wpAny_mono h hQ λ _ _ x=>x
section
variable {X:Cx}
noncomputable def HE (i:Nat):TE:=λ σ H Q=>∃ v,σ[i]?=some (some v)/\Q v H
noncomputable def tC (v:V):TE:=λ _ H Q=>Q v H
theorem qM {i:Nat} {x:Str} {pos:Pos} (hN:X.N[i]?=some x) (hv:Vis X.env.scope x) (hd:(x==("__debug__" : Str))=false:=by decide) (hcd:(x==("__classdict__" : Str))=false:=by decide):PE X (.Name x pos) (HE i):=by
 intro pins s σ H Q I h;obtain ⟨v,e,h⟩:=h;obtain ⟨m,hn,hl⟩:=I.loc;obtain ⟨u,r,l⟩:=hl i x v hN e hv;have fin:EP X pins σ Q u s:=⟨v,H,I,r,h⟩;rcases l with ⟨hk,hm⟩ | ⟨hk,c,hc,hcell⟩
 ·exact wpAny_Name (wpAny_loadName_local I.ok.kind hk hn hm fin) hd
 ·rcases hk with hk | hk
  ·exact wpAny_Name (wpAny_loadName_cell I.ok.kind hk hc hcell fin) hd
  ·exact wpAny_Name (wpAny_loadName_free I.ok.kind hk hc hcell fin hcd) hd
theorem FF {i j pos}:PE X (.Constant (.int i) j pos) (tC (.int i)):=λ _ _ _ H _ I h=>wpAny_Constant_int ⟨.int i,H,I.tok _,⟨_,rfl⟩,h⟩
theorem GY {b j pos}:PE X (.Constant (.bool b) j pos) (tC (.bl b)):=λ _ _ _ H _ I h=>Constant_bool ⟨.bl b,H,I,rfl,h⟩
theorem FE {j pos}:PE X (.Constant .none j pos) (tC .non):=λ _ _ _ H _ I h=>Constant_none ⟨.non,H,I,rfl,h⟩
theorem FC {x j pos}:PE X (.Constant (.str x) j pos) (tC (.str x)):=λ _ _ _ H _ I h=>Calls.Constant_str ⟨.str x,H,I.tok _,⟨_,rfl⟩,h⟩
noncomputable def Gl (X:Cx) (x:Str):Prop:=X.env.kindOf x=some .globalImplicit
theorem uq {E:IE->IG->Prop} {pins:List (IS×Obj)} {s:IG} {σ:St} {H:Hp} {x:Str} {u:IE} {pos:Pos} {Q:IE->IG->Prop} (I:Inv X pins σ H s) (hg:Gl X x) (hm:X.mg x=some u) (h:Q u s)
  (hd:(x==("__debug__" : Str))=false:=by decide):Jp (Jt X.prog X.w) X.A (eval (.Name x pos) X.env) Q E s :=
 Calls.Name_function_global I.ok.kind hg (Calls.loadGlobal_global (by rw [I.ok.glob]; exact I.mod.glob.keeps I.bk) hm h) hd
theorem qT {E:IE->IG->Prop} {pins:List (IS×Obj)} {s:IG} {σ:St} {H:Hp} {x:Str} {u:IE} {pos:Pos} {Q:IE->IG->Prop} (I:Inv X pins σ H s) (hg:Gl X x) (hm:X.mg x=none) (hv:bootBuiltins x=some u) (h:Q u s)
  (hn:x ≠ "__name__" := by decide) (hd:(x==("__debug__" : Str))=false:=by decide):Jp (Jt X.prog X.w) X.A (eval (.Name x pos) X.env) Q E s:=by
 obtain ⟨mb,h1,h2⟩:=I.mod.blt;exact Calls.Name_function_global I.ok.kind hg (Calls.loadGlobal_builtin (by rw [I.ok.glob]; exact I.mod.glob.keeps I.bk) hm (by rw [I.ok.blt]; exact h1.keeps I.bk) ((h2 x hn).trans hv) h) hd
theorem Dz {x:Str} {v:V} {u:IE} {pos:Pos} (hg:Gl X x) (hm:X.mg x=some u) (r:RelV v u) (hd:(x==("__debug__" : Str))=false:=by decide):PE X (.Name x pos) (tC v) :=
 λ _ _ _ H _ I h=>uq I hg hm ⟨v,H,I,r,h⟩ hd
variable {a b:Expr} {ta tb:TE} {pos:Pos}
noncomputable def PC (X:Cx) (op:CmpOp) (a b:Expr) (t:TE):Prop :=
 ∀ (pins:List (IS×Obj)) (s:IG) (σ:St) (H:Hp) (Q:VK),Inv X pins σ H s->t σ H Q ->
  Jp (Jt X.prog X.w) X.A (eval a X.env) (λ v s₁=>Jp (Jt X.prog X.w) X.A (eval b X.env) (λ u s₂=>Jp (Jt X.prog X.w) X.A (JG op v u) (EP X pins σ Q) X.xe s₂) X.xe s₁) X.xe s
noncomputable def tB (t:TE):TT:=λ σ H Q=>t σ H λ x H1=>∃ c,x=.bl c/\Q c H1
theorem By {op:CmpOp} {t:TE} (h:PC X op a b t) (h1:Jz op b=false:=by first | exact nobehind _ (by decide) (by decide) | rfl):PT X (.Compare a [op] [b] pos) (tB t):=by
 intro pins s σ H Q I hw;refine wpAny_isTrue_Compare1 (thn (h pins s σ H _ I hw) λ v s1 h1=>thn h1 λ u s2 h2=>thn h2 λ c s3 ⟨x,H1,I1,r1,q1⟩=>?_) h1;obtain ⟨d,rfl,q⟩:=q1;cases r1;exact wpAny_truthy_bool ⟨H1,I1,q⟩
theorem Bw {e:Expr} {t:TE} (h:PE X e t) (he:∀ whole,isTrue e X.env whole=(do let v <- whole; standAt e.pos; holding [v] (truthy v)):=by intro _; rfl):PT X e (tB t):=by
 intro pins s σ H Q I hw;refine isTrue_plain (thn (h pins s σ H _ I hw) λ v s1 ⟨x,H1,I1,r1,q1⟩=>?_) (he _);obtain ⟨d,rfl,q⟩:=q1;cases r1;exact wpAny_truthy_bool ⟨H1,I1,q⟩
variable {tA tB':TT} {rest:List Expr}
noncomputable def HS (t u:TT):TT:=λ σ H Q=>t σ H λ c H1=>if c=true then u σ H1 Q else Q false H1
noncomputable def tOr (t u:TT):TT:=λ σ H Q=>t σ H λ c H1=>if c=true then Q true H1 else u σ H1 Q
noncomputable def HI (t:TT):TT:=λ σ H Q=>t σ H λ c H1=>Q (!c) H1
theorem pw_and1 (ha:PT X a tA):PW X (.BoolOp .And [a] pos) tA:=by
 intro wh pins s σ H Q I h;refine isTrue_and (thn (ha pins s σ H Q I h) λ c s1 e=>?_);cases c with
 | true=>exact isTrue_and_nil e
 | false=>exact e
theorem pw_or1 (ha:PT X a tA):PW X (.BoolOp .Or [a] pos) tA:=by
 intro wh pins s σ H Q I h;refine isTrue_or (thn (ha pins s σ H Q I h) λ c s1 e=>?_);cases c with
 | false=>exact isTrue_or_nil e
 | true=>exact e
theorem pw_and (ha:PT X a tA) (hb:PW X (.BoolOp .And (b::rest) pos) tB'):PW X (.BoolOp .And (a::b::rest) pos) (HS tA tB'):=by
 intro wh pins s σ H Q I h;refine isTrue_and (thn (ha pins s σ H _ I h) λ c s1 ⟨H1,I1,q1⟩=>?_);cases c with
 | true=>exact hb wh pins s1 σ H1 Q I1 q1
 | false=>exact ⟨H1,I1,q1⟩
theorem pw_or (ha:PT X a tA) (hb:PW X (.BoolOp .Or (b::rest) pos) tB'):PW X (.BoolOp .Or (a::b::rest) pos) (tOr tA tB'):=by
 intro wh pins s σ H Q I h;refine isTrue_or (thn (ha pins s σ H _ I h) λ c s1 ⟨H1,I1,q1⟩=>?_);cases c with
 | true=>exact ⟨H1,I1,q1⟩
 | false=>exact hb wh pins s1 σ H1 Q I1 q1
theorem Fx (ha:PT X a tA):PT X (.UnaryOp .Not a pos) (HI tA):=by
 intro pins s σ H Q I h;exact isTrue_not (ha pins s σ H (λ c H1=>Q (!c) H1) I h)
noncomputable def GJ (ta tb:TE):TE:=λ σ H Q=>ta σ H λ x H1=>∃ c,x=.bl c/\if c=true then tb σ H1 Q else Q (.bl false) H1
noncomputable def GD (ta:TE):TE:=λ σ H Q=>ta σ H λ x H1=>∃ c,x=.bl c/\Q (.bl (!c)) H1
theorem BF {op} {t:TE} (h:PE X a t):PE X (.BoolOp op [a] pos) t:=λ pins s σ H Q I hw=>BoolOp_one (h pins s σ H Q I hw)
theorem BP (ha:PE X a ta) (hb:PE X (.BoolOp .And (b::rest) pos) tb):PE X (.BoolOp .And (a::b::rest) pos) (GJ ta tb):=by
 intro pins s σ H Q I h;refine BoolOp_and (thn (ha pins s σ H _ I h) λ v s1 ⟨x,H1,I1,r1,q1⟩=>?_);obtain ⟨c,rfl,q1⟩:=q1;cases r1;refine wpAny_truthy_bool ?_;cases c with
 | true=>exact hb pins s1 σ H1 Q I1 q1
 | false=>exact ⟨.bl false,H1,I1,rfl,q1⟩
theorem FD (ha:PE X a ta):PE X (.UnaryOp .Not a pos) (GD ta):=by
 intro pins s σ H Q I h;refine UnaryOp_ (thn (ha pins s σ H _ I h) λ v s1 ⟨x,H1,I1,r1,q1⟩=>?_);obtain ⟨c,rfl,q1⟩:=q1;cases r1;exact not_of (wpAny_truthy_bool ⟨.bl (!c),H1,I1,rfl,q1⟩)
noncomputable def tIf (t:TT) (ta tb:TE):TE:=λ σ H Q=>t σ H λ c H1=>if c=true then ta σ H1 Q else tb σ H1 Q
theorem xR {c:Expr} (hc:PT X c tA) (ha:PE X a ta) (hb:PE X b tb):PE X (.IfExp c a b pos) (tIf tA ta tb):=by
 intro pins s σ H Q I h;refine wpAny_IfExp (thn (hc pins s σ H _ I h) λ d s1 ⟨H1,I1,q1⟩=>?_);cases d with
 | true=>exact ha pins s1 σ H1 Q I1 q1
 | false=>exact hb pins s1 σ H1 Q I1 q1
end
noncomputable def SqL (K:Iv) (H:Hp) (a:IS) (xs:List V):Prop :=
 Rd H a (.lst xs) \/
  ∃ (o:Obj) (its:Array IE) (n:Nat),K.lookup a=some o/\o.cls=.type "list" /\ o.dict=none/\o.data=.seq its n/\its.size<=IB/\Vals xs its.toList
noncomputable def SqT (K:Iv) (H:Hp) (a:IS) (xs:List V):Prop :=
 Rd H a (.tup xs) \/
  ∃ (o:Obj) (its:Array IE) (n:Nat),K.lookup a=some o/\o.cls=.type "tuple" /\ o.data=.seq its n/\its.size<=IB/\Vals xs its.toList
noncomputable def Im:IE->Option V
 | .none=>some .non
 | .bool b=>some (.bl b)
 | .int i _=>some (.int i)
 | .str x _=>some (.str x)
 | .bytes b _=>some (.byt b)
 | .float b _=>some (.flt b)
 | .ref a=>some (.ref a)
 | .type n=>some (.ty n)
 | _=>none
theorem RelV.abs {x:V} {u:IE} (r:RelV x u):Im u=some x:=by
 cases x with
 | non=>cases r; rfl
 | bl _=>cases r; rfl
 | int _=>obtain ⟨t,rfl⟩:=r; rfl
 | str _=>obtain ⟨t,rfl⟩:=r; rfl
 | byt _=>obtain ⟨t,rfl⟩:=r; rfl
 | flt _=>obtain ⟨t,rfl⟩:=r; rfl
 | ref _=>cases r; rfl
 | ty _=>cases r; rfl
theorem RelV.inj {x y:V} {u:IE} (r:RelV x u) (q:RelV y u):x=y:=Option.some.inj (r.abs.symm.trans q.abs)
theorem Vals.inj:∀ {xs ys:List V} {us:List IE},Vals xs us->Vals ys us->xs=ys
 | _,_,_,.nil,.nil=>rfl
 | _,_,_,.cons r t,.cons r' t'=>by rw [r.inj r',Vals.inj t t']
section
variable {X:Cx} {pins:List (IS×Obj)} {σ:St} {H:Hp} {s:IG} {a:IS} {xs ys:List V}
theorem SqL.of {K:Iv} (h:H a=some (.lst xs)):SqL K H a xs:=.inl (.inl h)
theorem SqT.of {K:Iv} (h:H a=some (.tup xs)):SqT K H a xs:=.inl (.inl h)
theorem Inv.list (I:Inv X pins σ H s) (h:SqL X.K H a xs):∃ its:List IE,Vals xs its/\PlainL s.heap a its.toArray/\xs.length<=IB:=by
 rcases h with h | ⟨o,its,n,hk,hc,hd,hs,hz,r⟩
 ·obtain ⟨z,its,n,r,e⟩:=h.ok I.hok;exact ⟨its,r,⟨_,n,e,rfl,rfl,rfl⟩,z⟩
 ·refine ⟨its.toList,r,⟨o,n,I.kIn a o hk,hc,hd,by simpa using hs⟩,?_⟩;have e:=r.length;simp only [Array.length_toList] at e;omega
theorem Inv.tuple (I:Inv X pins σ H s) (h:SqT X.K H a xs):∃ its:List IE,Vals xs its/\IsTup s.heap a its.toArray/\xs.length<=IB:=by
 rcases h with h | ⟨o,its,n,hk,hc,hs,hz,r⟩
 ·obtain ⟨z,its,r,p⟩:=h.ok I.hok;exact ⟨its,r,p,z⟩
 ·refine ⟨its.toList,r,⟨o,I.kIn a o hk,hc,n,by simpa using hs⟩,?_⟩;have e:=r.length;simp only [Array.length_toList] at e;omega
theorem Inv.list_inj (I:Inv X pins σ H s) (h:SqL X.K H a xs) (h':SqL X.K H a ys):xs=ys:=by
 obtain ⟨its,r,⟨o,n,e,_,_,d⟩,_⟩:=I.list h;obtain ⟨its',r',⟨o',n',e',_,_,d'⟩,_⟩:=I.list h';rw [e] at e'; cases e';rw [d] at d';injection d' with d1 _
 have:its=its':=by simpa using congrArg Array.toList d1
 subst this;exact r.inj r'
theorem Inv.tuple_inj (I:Inv X pins σ H s) (h:SqT X.K H a xs) (h':SqT X.K H a ys):xs=ys:=by
 obtain ⟨its,r,⟨o,e,_,n,d⟩,_⟩:=I.tuple h;obtain ⟨its',r',⟨o',e',_,n',d'⟩,_⟩:=I.tuple h';rw [e] at e'; cases e';rw [d] at d';injection d' with d1 _
 have:its=its':=by simpa using congrArg Array.toList d1
 subst this;exact r.inj r'
end
noncomputable abbrev Cx.wish (X:Cx) (E:IE->IG->Prop):Cx:={ X with xe:=E }
noncomputable abbrev Cx.nox (X:Cx):Cx:=X.wish λ _ _=>False
theorem Cx.Ok.wish {X:Cx} (ok:X.Ok) (E:IE->IG->Prop):(X.wish E).Ok :=
 ⟨ok.mod,ok.kind,ok.glob,ok.blt,ok.above,ok.inj,ok.has,ok.cab,ok.hd,ok.frames,ok.stk,ok.exf,ok.bs,ok.bsz,ok.noex,ok.exfs,ok.funs,ok.frf⟩
theorem Cx.Ok.unwish {X:Cx} {E:IE->IG->Prop} (ok:(X.wish E).Ok):X.Ok :=
 ⟨ok.mod,ok.kind,ok.glob,ok.blt,ok.above,ok.inj,ok.has,ok.cab,ok.hd,ok.frames,ok.stk,ok.exf,ok.bs,ok.bsz,ok.noex,ok.exfs,ok.funs,ok.frf⟩
section
variable {X:Cx} {pins:List (IS×Obj)} {σ:St} {H:Hp} {s:IG} {E:IE->IG->Prop}
theorem Inv.wish (I:Inv X pins σ H s) (E:IE->IG->Prop):Inv (X.wish E) pins σ H s:=⟨I.ok.wish E,I.os,I.bare,I.base,I.loc,I.cell,I.free,I.freeC,I.pin,I.hok,I.len⟩
theorem Inv.unwish (I:Inv (X.wish E) pins σ H s):Inv X pins σ H s:=⟨I.ok.unwish,I.os,I.bare,I.base,I.loc,I.cell,I.free,I.freeC,I.pin,I.hok,I.len⟩
theorem SP.unwish {D:Ends} {f:Flow} {s':IG} (h:SP (X.wish E) pins D f s'):SP X pins D f s':=by
 cases f with
 | next=>obtain ⟨σ',H',I,q⟩:=h; exact ⟨σ',H',I.unwish,q⟩
 | brk=>obtain ⟨σ',H',I,q⟩:=h; exact ⟨σ',H',I.unwish,q⟩
 | cont=>obtain ⟨σ',H',I,q⟩:=h; exact ⟨σ',H',I.unwish,q⟩
 | ret u=>obtain ⟨v,σ',H',I,r,q⟩:=h; exact ⟨v,σ',H',I.unwish,r,q⟩
theorem PSs.nox {st:List Stmt} {t:TS} (h:PSs X.nox st t):PSs X st t:=λ pins s σ H D I hw =>
 wpAny_mono (h pins s σ H D (I.wish _) hw) (λ _ _ q=>q.unwish) λ _ _ z=>False.elim z
end
section
variable {X:Cx} {st:Stmt} {rest:List Stmt} {t u:TS} {e:Expr} {te:TE} {pos:Pos}
noncomputable def GE:TS:=λ D σ H=>D.nx σ H
noncomputable def HG (t u:TS):TS:=λ D σ H=>t { D with nx:=u D } σ H
theorem zP:PSs X [] GE:=λ _ _ σ H _ I h=>wpAny_execs_nil ⟨σ,H,I,h⟩
theorem xP (h1:PS X st t) (h2:PSs X rest u):PSs X (st::rest) (HG t u):=by
 intro pins s σ H D I h;refine wpAny_execs_cons (thn (h1 pins s σ H { D with nx:=u D } I h) λ f s1 q=>?_);cases f with
 | next =>
  obtain ⟨σ',H',I',q⟩:=q;exact h2 pins s1 σ' H' D I' q
 | ret v=>exact q
 | brk=>exact q
 | cont=>exact q
theorem zO (h1:PS X st t):PSs X [st] t:=by
 intro pins s σ H D I h;refine wpAny_execs_cons (thn (h1 pins s σ H D I h) λ f s1 q=>?_);cases f with
 | next=>exact wpAny_execs_nil q
 | ret v=>exact q
 | brk=>exact q
 | cont=>exact q
noncomputable def Fq:TS:=λ D σ H=>D.bk σ H
theorem Bz:PS X (.Break pos) Fq:=λ _ _ σ H _ I h=>wpAny_Break ⟨σ,H,I,h⟩
theorem Inv.quiet {pins:List (IS×Obj)} {σ:St} {H:Hp} {s:IG} (I:Inv X pins σ H s):interactive X.env=false:=by simp [interactive,I.ok.kind]
noncomputable def GF (te:TE):TS:=λ D σ H=>te σ H λ _ H1=>D.nx σ H1
theorem wK (he:PE X e te) (hs:swapsWith e none pos.line X.env=pure false:=by rfl):PS X (.Expr e pos) (GF te):=by
 intro pins s σ H D I h;exact wpAny_Expr_any (thn (he pins s σ H _ I h) λ v s1 ⟨x,H1,I1,r1,q1⟩=>⟨σ,H1,I1,q1⟩) I.quiet hs
noncomputable def HH (te:TE):TS:=λ D σ H=>te σ H D.rt
theorem yS (he:PE X e te):PS X (.Return (some e) pos) (HH te):=by
 intro pins s σ H D I h;exact wpAny_Return_some (thn (he pins s σ H _ I h) λ v s1 ⟨x,H1,I1,r1,q1⟩=>⟨x,σ,H1,I1,r1,q1⟩)
noncomputable def HM (c:TT) (t u:TS):TS:=λ D σ H=>c σ H λ b H1=>if b=true then t D σ H1 else u D σ H1
theorem EL {c:Expr} {a b:List Stmt} {tc:TT} (hc:PT X c tc) (ha:PSs X a t) (hb:PSs X b u):PS X (.If c a b pos) (HM tc t u):=by
 intro pins s σ H D I h;refine wpAny_If (thn (hc pins s σ H _ I h) λ d s1 ⟨H1,I1,q1⟩=>?_);cases d with
 | true=>exact ha pins s1 σ H1 D I1 q1
 | false=>exact hb pins s1 σ H1 D I1 q1
noncomputable def Fk:TS:=λ _ _ _=>False
theorem xQ:PS X st Fk:=λ _ _ _ _ _ _ h=>h.elim
end
noncomputable abbrev TG:=V->St->Hp->(St->Hp->Prop)->Prop
noncomputable abbrev TGs:=List V->St->Hp->(St->Hp->Prop)->Prop
noncomputable def PG (X:Cx) (target:Expr) (t:TG):Prop :=
 ∀ (pins:List (IS×Obj)) (s:IG) (σ:St) (H:Hp) (v:V) (u:IE) (Q:St->Hp->Prop),Inv X pins σ H s->RelV v u->t v σ H Q ->
  Jp (Jt X.prog X.w) X.A (assign target X.env u) (λ _ s'=>∃ σ' H',Inv X pins σ' H' s'/\Q σ' H') X.xe s
noncomputable def PGs (X:Cx) (ts:List Expr) (t:TGs):Prop :=
 ∀ (pins:List (IS×Obj)) (s:IG) (σ:St) (H:Hp) (vs:List V) (us:List IE) (Q:St->Hp->Prop),Inv X pins σ H s->Vals vs us->t vs σ H Q ->
  Jp (Jt X.prog X.w) X.A (assignInOrder ((assignEach ts X.env).map (·.2)) us) (λ _ s'=>∃ σ' H',Inv X pins σ' H' s'/\Q σ' H') X.xe s
section
variable {X:Cx} {pos:Pos}
noncomputable def vm (i:Nat):TG:=λ v σ H Q=>Q (σ.set i (some v)) H
theorem aH {i:Nat} {x:Str} (hN:X.N.Nodup) (hi:X.N[i]?=some x) (hx:Loc X.env.scope x) (hf:X.fn x=true\/X.env.scope.names.lookup x=some .local:=by first | exact .inl rfl | exact .inr rfl | assumption):PG X (.Name x pos) (vm i):=by
 intro pins s σ H v u Q I r h;exact wpAny_assign_Name (xH I hN hi hx r (λ s' I'=>⟨_,H,I',h⟩) hf)
noncomputable def Hh:TGs:=λ vs σ H Q=>vs=[]/\Q σ H
noncomputable def EY (t:TG) (u:TGs):TGs:=λ vs σ H Q=>∃ v r,vs=v::r/\t v σ H λ σ' H'=>u r σ' H' Q
theorem lE:PGs X [] Hh:=by
 intro pins s σ H vs us Q I r h;obtain ⟨e,h⟩:=h;subst e;cases r;exact assignInOrder_nil ⟨σ,H,I,h⟩
theorem db {e:Expr} {es:List Expr} {t:TG} {u:TGs} (h1:PG X e t) (h2:PGs X es u)
  (hs:(assignEach (e::es) X.env).map (·.2)=assign e X.env::(assignEach es X.env).map (·.2):=by rfl):PGs X (e::es) (EY t u):=by
 intro pins s σ H vs us Q I r h;obtain ⟨v,vr,e1,h⟩:=h;subst e1;cases r with
 | cons r rr =>
  rw [hs];refine assignInOrder_cons (thn (h1 pins s σ H _ _ _ I r h) λ _ s1 ⟨σ1,H1,I1,q1⟩=>?_);exact h2 pins s1 σ1 H1 _ _ Q I1 rr q1
noncomputable def Hg (K:Iv) (n:Nat) (t:TGs):TG:=λ v σ H Q=>∃ a xs,v=.ref a/\SqT K H a xs/\xs.length=n/\t xs σ H Q
theorem n8 {es:List Expr} {k:Nat} {t:TGs} {n:Nat} (hc:X.calm=true) (h:PGs X es t)
  (hn:(assignEach es X.env).length=n:=by rfl) (hst:(assignEach es X.env).findIdx? (·.1)=none:=by rfl):PG X (.Tuple es k pos) (Hg X.K n t):=by
 intro pins s σ H v u Q I r hw;obtain ⟨a,xs,e1,hq,hl,hw⟩:=hw;subst e1;cases r;obtain ⟨its,rv,ht,hz⟩:=I.tuple hq;refine assign_Tuple_tuple (I.ok.hd hc) ht (by simp [hn,<- hl,rv.length]) hst λ h' hx=>?_;have I1:Inv X pins σ H { s with heap:=h' }:=I.kept (t':=s.toks) λ b o e=>hx b o (Je (IU e)) e;exact h pins _ σ H xs _ Q I1 (by simpa using rv) hw
noncomputable def Bm (te:TE) (g:TG):TS:=λ D σ H=>te σ H λ x H1=>g x σ H1 D.nx
theorem Fz {tg e:Expr} {te:TE} {g:TG} (he:PE X e te) (hg:PG X tg g) (hs:swapsWithSole [tg] e pos.line X.env=pure false:=by rfl) (hw:swappedStores [tg] e X.env=pure none:=by rfl)
  (h1:(assignEach [tg] X.env).map (·.2)=[assign tg X.env]:=by rfl):PS X (.Assign [tg] e pos) (Bm te g):=by
 intro pins s σ H D I h;refine wpAny_Assign_stores (thn (he pins s σ H _ I h) λ v s1 ⟨x,H1,I1,r1,q1⟩=>?_) hs hw;rw [h1];exact thn (hg pins s1 σ H1 x v _ I1 r1 q1) λ _ s2 q=>q
theorem yR {i:Nat} {x:Str} {e:Expr} {te:TE} {pos':Pos} (hN:X.N.Nodup) (hi:X.N[i]?=some x) (hx:Loc X.env.scope x) (he:PE X e te) (hs:swapsWith e (some (.Name x pos')) pos.line X.env=pure false:=by rfl) (hf:X.fn x=true\/X.env.scope.names.lookup x=some .local:=by first | exact .inl rfl | exact .inr rfl | assumption) :
  PS X (.Assign [.Name x pos'] e pos) (Bm te (vm i)):=by
 intro pins s σ H D I h;refine wpAny_Assign_Name (thn (he pins s σ H _ I h) λ v s1 ⟨y,H1,I1,r1,q1⟩=>?_) hs;exact xH I1 hN hi hx r1 (λ s2 I2=>⟨_,H1,I2,q1⟩) hf
end
section
variable {X:Cx} {pos:Pos}
end
structure It where
 go:Nat->Hp->Prop
 yld:Nat->Hp->V->Hp->Prop
 stop:Nat->Hp->Prop
noncomputable def pZ (X:Cx) (pins:List (IS×Obj)) (H:Hp) (b:IS):Prop :=
 H b=none/\b≠X.env.locals/\b∉X.fs/\(b∈X.ex\/X.s₀.heap.objs.size<=b)/\(∀ x c,X.env.cells.lookup x=some c->c≠b)/\∀ p∈X.pn++pins,p.1≠b
theorem Inv.fpOk {X:Cx} {pins:List (IS×Obj)} {σ:St} {H H':Hp} {s:IG} {b:IS} (I:Inv X pins σ H s) (hb:s.heap.objs.size<=b) (hn:H' b=none):pZ X pins H' b:=by
 refine ⟨hn,Kx (IV I.lt hb),I.nofs hb,.inr (Jd I.sz hb),λ x c e z=>?_,λ p hp z=>?_⟩
 ·obtain ⟨v,q⟩:=I.cell x c e;exact absurd (IV q.lt (by rw [z]; exact hb)) (JW _)
 ·exact absurd (IV (IU (I.pin p hp).1) (by rw [z]; exact hb)) (JW _)
structure Turn (P:Jg) (w:World) (K:Iv) (tg:Expr) (J:It) (fp:List IS) (it:IS) (tn:Nat->Heap->Prop):Prop where
 mem:it∈fp
 obj:∀ i h,tn i h->∀ b∈fp,∃ o,h.get? b=some o/\∀ v,o.data≠.cell v
 keep:∀ i h h',tn i h->(∀ b∈fp,∀ o,h.get? b=some o->h'.get? b=some o)->tn i h'
 item:∀ (X:Cx),X.prog=P->X.w=w->X.K=K->X.calm=true->∀ (i:Nat) (pins:List (IS×Obj)) (s:IG) (σ:St) (H:Hp) (E:IE->IG->Prop),Inv X pins σ H s->(∀ b∈fp,pZ X pins H b)->tn i s.heap->J.go i H ->
  Jp (Jt P w) X.A (pyNext (.ref it)) (λ r s1=>∃ u,r=some u /\
   Jp (Jt P w) X.A (letOwnedTupleGo tg (.ref it) u) (λ _ s2=>∃ x H',Inv X pins σ H' s2/\RelV x u/\J.yld i H x H'/\tn (i+1) s2.heap/\∀ b∈fp,H' b=none) E s1) E s
 done:∀ (X:Cx),X.prog=P->X.w=w->X.K=K->X.calm=true->∀ (i:Nat) (pins:List (IS×Obj)) (s:IG) (σ:St) (H:Hp) (E:IE->IG->Prop),Inv X pins σ H s->(∀ b∈fp,pZ X pins H b)->tn i s.heap->J.stop i H ->
  Jp (Jt P w) X.A (pyNext (.ref it)) (λ r s1=>r=none/\Inv X pins σ H s1) E s
 self:∀ (A:JH) (i:Nat) (s:IG) (Q:IE->IG->Prop) (E:IE->IG->Prop),tn i s.heap->Q (.ref it) s->Jp (Jt P w) A (pyIter (.ref it)) Q E s
noncomputable abbrev TI:=St->Hp->(It->Hp->Prop)->Prop
noncomputable def PIE (X:Cx) (pins:List (IS×Obj)) (σ:St) (tg:Expr) (R:It->Hp->Prop) (itv:IE) (s2:IG):Prop :=
 ∃ (it:IS) (fp:List IS) (tn:Nat->Heap->Prop) (J:It) (H':Hp),itv=.ref it/\Inv X pins σ H' s2/\Turn X.prog X.w X.K tg J fp it tn/\tn 0 s2.heap/\(∀ b∈fp,pZ X pins H' b)/\R J H'
noncomputable def PI (X:Cx) (tg iter:Expr) (wi:TI):Prop :=
 ∀ (pins:List (IS×Obj)) (s:IG) (σ:St) (H:Hp) (R:It->Hp->Prop),Inv X pins σ H s->wi σ H R ->
  Jp (Jt X.prog X.w) X.A (eval iter X.env) (λ v s1=>Jp (Jt X.prog X.w) X.A (pyIter v) (PIE X pins σ tg R) X.xe s1) X.xe s
theorem Ag {M:Model} {A:JH} {E:IE->IG->Prop} {s:IG} {tg:Expr} {it:IS} {u:IE} {o:Obj} {n:String} {vs:Array IE} {Q:Unit->IG->Prop} (ho:s.heap.get? it=some o) (hc:o.cls=.type n) (hd:o.data=.fields vs)
  (hn:["enumerate", "zip", "dict_itemiterator", "dict_reverseitemiterator", "odict_iterator", "itertools.zip_longest", "itertools.pairwise"].contains n=false) (hQ:Q () s):Jp M A (letOwnedTupleGo tg (.ref it) u) Q E s:=by
 unfold letOwnedTupleGo;cases tg <;> first
  | exact Ja hQ
  | (cases u <;> first
    | exact Ja hQ
    | (refine IR (wpAny_load ho ?_)
       rw [hc,hd];show Jp M A (if (["enumerate", "zip", "dict_itemiterator", "dict_reverseitemiterator", "odict_iterator", "itertools.zip_longest", "itertools.pairwise"].contains n&&vs[0]?==some (rawInt _))=true then _ else _) Q E s;rw [if_neg (by intro h; rw [hn,Bool.false_and] at h; cases h)];exact Ja hQ))
noncomputable def Itl (K:Iv) (a:IS):It :=
 ⟨λ i H=>∃ xs x,SqL K H a xs/\xs[i]?=some x,λ i H x H'=>H'=H/\∀ xs,SqL K H a xs->xs[i]?=some x,λ i H=>∃ xs,SqL K H a xs/\xs.length<=i⟩
noncomputable def Itt (K:Iv) (a:IS):It :=
 ⟨λ i H=>∃ xs x,SqT K H a xs/\xs[i]?=some x,λ i H x H'=>H'=H/\∀ xs,SqT K H a xs->xs[i]?=some x,λ i H=>∃ xs,SqT K H a xs/\xs.length<=i⟩
noncomputable def Itr (lo:Int) (n:Nat):It:=⟨λ i _=>i < n,λ i H x H'=>H'=H/\x=.int (lo+i),λ i _=>n<=i⟩
theorem Av {P:Jg} {w:World} {K:Iv} {tg:Expr} (a it:IS):Turn P w K tg (Itl K a) [it] it (λ i h=>h.IsListIter it a i) where
 mem:=by simp
 obj:=λ i h st b hb=>by
  have e:b=it:=by simpa using hb
  subst e;obtain ⟨o,e,c,d⟩:=st;exact ⟨o,e,λ v z=>by rw [d] at z; cases z⟩
 keep:=λ i h h' st k=>st.at λ o e=>k it (by simp) o e
 item:=by
  intro X hP hw hK hc i pins s σ H E I hf st hg;subst hP hw hK;obtain ⟨xs,x,hq,hx⟩:=hg;obtain ⟨its,rv,p,hz⟩:=I.list hq;obtain ⟨u,hu,ru⟩:=rv.get hx;obtain ⟨f0,f1,f2,f3,f4,f5⟩:=hf it (by simp);refine wpAny_pyNext_list_item st p.isList (x:=u) (by simpa using hu) λ h' st' sb=>?_;have I1:Inv X pins σ H { s with heap:=h' }:=I.turned (t':=s.toks) (λ b o hb e=>(sb.2 b hb).trans e) f0 f1 f3 f4 f5;obtain ⟨o,e,c,d⟩:=id st';exact ⟨u,rfl,Ag (s:={ s with heap:=h' }) e c d (by decide) ⟨x,H,I1,ru,⟨rfl,λ ys hy=>by rw [I.list_inj hy hq]; exact hx⟩,st',λ b hb=>(hf b hb).1⟩⟩
 done:=by
  intro X hP hw hK hc i pins s σ H E I hf st hg;subst hP hw hK;obtain ⟨xs,hq,hx⟩:=hg;obtain ⟨its,rv,p,hz⟩:=I.list hq;obtain ⟨f0,f1,f2,f3,f4,f5⟩:=hf it (by simp);have hl:=rv.length;exact wpAny_pyNext_list_end (I.ok.hd hc) st p.isList (by simp; omega) λ h' eb=>⟨rfl,I.turned (t':=s.toks) (λ b o hb e=>eb b o hb e) f0 f1 f3 f4 f5⟩
 self:=λ _ _ _ _ _ st h=>wpAny_pyIter_listiter st h
theorem yK {P:Jg} {w:World} {K:Iv} {tg:Expr} (a it:IS):Turn P w K tg (Itt K a) [it] it (λ i h=>h.IsTupleIter it a i) where
 mem:=by simp
 obj:=λ i h st b hb=>by
  have e:b=it:=by simpa using hb
  subst e;obtain ⟨o,e,c,d⟩:=st;exact ⟨o,e,λ v z=>by rw [d] at z; cases z⟩
 keep:=λ i h h' st k=>st.at λ o e=>k it (by simp) o e
 item:=by
  intro X hP hw hK hc i pins s σ H E I hf st hg;subst hP hw hK;obtain ⟨xs,x,hq,hx⟩:=hg;obtain ⟨its,rv,p,hz⟩:=I.tuple hq;obtain ⟨u,hu,ru⟩:=rv.get hx;obtain ⟨f0,f1,f2,f3,f4,f5⟩:=hf it (by simp);refine wpAny_pyNext_tuple_item st (show s.heap.IsTuple a its.toArray from p) (x:=u) (by simpa using hu) λ h' st' sb=>?_;have I1:Inv X pins σ H { s with heap:=h' }:=I.turned (t':=s.toks) (λ b o hb e=>(sb.2 b hb).trans e) f0 f1 f3 f4 f5;obtain ⟨o,e,c,d⟩:=id st';exact ⟨u,rfl,Ag (s:={ s with heap:=h' }) e c d (by decide) ⟨x,H,I1,ru,⟨rfl,λ ys hy=>by rw [I.tuple_inj hy hq]; exact hx⟩,st',λ b hb=>(hf b hb).1⟩⟩
 done:=by
  intro X hP hw hK hc i pins s σ H E I hf st hg;subst hP hw hK;obtain ⟨xs,hq,hx⟩:=hg;obtain ⟨its,rv,p,hz⟩:=I.tuple hq;obtain ⟨f0,f1,f2,f3,f4,f5⟩:=hf it (by simp);have hl:=rv.length;exact wpAny_pyNext_tuple_end (I.ok.hd hc) st (show s.heap.IsTuple a its.toArray from p) (by simp; omega) λ h' eb=>⟨rfl,I.turned (t':=s.toks) (λ b o hb e=>eb b o hb e) f0 f1 f3 f4 f5⟩
 self:=λ _ _ _ _ _ st h=>wpAny_pyIter_tupleiter st h
theorem yL {P:Jg} {w:World} {K:Iv} {tg:Expr} (it:IS) (lo:Int) (n:Nat):Turn P w K tg (Itr lo n) [it] it (λ i h=>IsRangeIter h it (lo+(i:Nat)*1) ((n:Int) - (i:Nat)) 1) where
 mem:=by simp
 obj:=λ i h st b hb=>by
  have e:b=it:=by simpa using hb
  subst e;exact ⟨_,st,λ v z=>by
   have z':Data.fields _=Data.cell v:=z;cases z'⟩
 keep:=λ i h h' st k=>k it (by simp) _ st
 item:=by
  intro X hP hw hK hc i pins s σ H E I hf st hg;subst hP hw hK;obtain ⟨f0,f1,f2,f3,f4,f5⟩:=hf it (by simp);have W:=Walks.range (prog:=X.prog) (w:=X.w) (I.ok.hd hc) it lo 1 n;refine W.item i s _ _ hg st λ v h' tk hv st' kk=>?_;obtain ⟨t,rfl⟩:=hv;have I1:Inv X pins σ H { s with heap:=h',toks:=tk }:=I.turned (λ b o hb e=>kk b o (by simpa using hb) e) f0 f1 f3 f4 f5;refine ⟨_,rfl,Ag (s:={ s with heap:=h',toks:=tk }) (n := "range_iterator") st' rfl rfl (by decide) ⟨.int (lo+i),H,I1,⟨t,?_⟩,⟨rfl,rfl⟩,st',λ b hb=>(hf b hb).1⟩⟩;rw [Int.mul_one]
 done:=by
  intro X hP hw hK hc i pins s σ H E I hf st hg;subst hP hw hK;obtain ⟨f0,f1,f2,f3,f4,f5⟩:=hf it (by simp);exact wpAny_pyNext_range_end (I.ok.hd hc) st (by have:n<=i:=hg; omega) λ h' eb=>⟨rfl,I.turned (t':=s.toks) (λ b o hb e=>eb b o hb e) f0 f1 f3 f4 f5⟩
 self:=λ _ _ _ _ _ st h=>wpAny_pyIter_rangeiter st h
section
variable {X:Cx} {tg:Expr}
noncomputable def G8 (K:Iv) (tl:TE):TI:=λ σ H R=>tl σ H λ x H1=>∃ a,x=.ref a/\(∃ xs,SqL K H1 a xs)/\R (Itl K a) H1
noncomputable def Id (K:Iv) (tl:TE):TI:=λ σ H R=>tl σ H λ x H1=>∃ a,x=.ref a/\(∃ xs,SqT K H1 a xs)/\R (Itt K a) H1
theorem wM {l:Expr} {tl:TE} (hl:PE X l tl):PI X tg l (G8 X.K tl):=by
 intro pins s σ H R I h;refine thn (hl pins s σ H _ I h) λ v s1 ⟨x,H1,I1,r1,q1⟩=>?_;obtain ⟨a,e,⟨xs,hq⟩,q⟩:=q1;subst e;cases r1;obtain ⟨its,rv,p,hz⟩:=I1.list hq;refine wpAny_pyIter_list p.isList ?_;refine ⟨s1.heap.objs.size,[s1.heap.objs.size],_,_,H1,rfl,I1.kept (t':=s1.toks) λ b o e=>IK _ e,Av a _,⟨_,Jf _ rfl,rfl,rfl⟩,λ b hb=>?_,q⟩;have e:b=s1.heap.objs.size:=by simpa using hb
 subst e;exact I1.fpOk (IF _) (I1.hok.fresh (IF _))
theorem FB {l:Expr} {tl:TE} (hl:PE X l tl):PI X tg l (Id X.K tl):=by
 intro pins s σ H R I h;refine thn (hl pins s σ H _ I h) λ v s1 ⟨x,H1,I1,r1,q1⟩=>?_;obtain ⟨a,e,⟨xs,hq⟩,q⟩:=q1;subst e;cases r1;obtain ⟨its,rv,p,hz⟩:=I1.tuple hq;refine wpAny_pyIter_tuple (show s1.heap.IsTuple a its.toArray from p) ?_;refine ⟨s1.heap.objs.size,[s1.heap.objs.size],_,_,H1,rfl,I1.kept (t':=s1.toks) λ b o e=>IK _ e,yK a _,⟨_,Jf _ rfl,rfl,rfl⟩,λ b hb=>?_,q⟩;have e:b=s1.heap.objs.size:=by simpa using hb
 subst e;exact I1.fpOk (IF _) (I1.hok.fresh (IF _))
theorem Br {pins:List (IS×Obj)} {σ:St} {H:Hp} {s:IG} {R:It->Hp->Prop} {E:IE->IG->Prop} {lo hi:Int} {t u v:Tok} {tk:Nat} (I:Inv X pins σ H s) (h1:-(2 ^ 62)<=lo) (h2:lo < 2 ^ 62) (h3:-(2 ^ 62)<=hi) (h4:hi < 2 ^ 62)
  (q:R (Itr lo (hi - lo).toNat) H):Jp (Jt X.prog X.w) X.A (pyIter (.ref s.heap.objs.size)) (PIE X pins σ tg R) E { s with heap:=s.heap.push { cls:=.type "range", data:=.fields #[.int lo t,.int hi u,.int 1 v] },toks:=tk }:=by
 refine wpAny_pyIter_range (IsRange.new ..) (small_one h1 h2 h3 h4) ?_;have I1:Inv X pins σ H { s with heap:=s.heap.push { cls:=.type "range", data:=.fields #[.int lo t,.int hi u,.int 1 v] },toks:=tk }:=I.kept λ b o e=>IK _ e;refine ⟨(s.heap.push { cls:=.type "range", data:=.fields #[.int lo t,.int hi u,.int 1 v] }).objs.size,[(s.heap.push { cls:=.type "range", data:=.fields #[.int lo t,.int hi u,.int 1 v] }).objs.size],_,_,H,rfl,I1.kept (t':=tk) λ b o e=>IK _ e,yL _ lo (hi - lo).toNat,?_,λ b hb=>?_,q⟩
 ·have e1:lo+((0:Nat):Int)*1=lo:=by simp
  have e2:(((hi - lo).toNat:Nat):Int) - ((0:Nat):Int)=Builtin.Range.rangeSize lo hi 1:=by rw [rangeSize_one]; split <;> omega
  show IsRangeIter _ _ (lo+((0:Nat):Int)*1) ((((hi - lo).toNat:Nat):Int) - ((0:Nat):Int)) 1;rw [e1,e2];exact Jf _ rfl
 ·have e:b=(s.heap.push { cls:=.type "range", data:=.fields #[.int lo t,.int hi u,.int 1 v] }).objs.size:=by simpa using hb
  subst e;exact I1.fpOk (IF _) (I1.hok.fresh (IF _))
noncomputable def G6 (ta:TA):TI:=λ σ H R=>ta σ H λ vs H1=>∃ j:Int,vs=[.int j]/\-(2 ^ 62)<=j/\j < 2 ^ 62/\R (Itr 0 j.toNat) H1
theorem AD {a:Expr} {ta:TA} {p pos:Pos} (hg:Gl X "range") (hm:X.mg "range" = none) (ha:PA X [a] ta) (hs:II [a] X.env=[(false,eval a X.env)]:=by rfl):PI X tg (.Call (.Name "range" p) [a] [] pos) (G6 ta):=by
 intro pins s σ H R I h;refine Call_ (qT I hg hm boot_range (PyProof.Rows.callWith_type1 (thn (ha pos pins s σ H _ I h) λ us s1 ⟨vs,H1,I1,r1,q1⟩=>?_) hs rfl));obtain ⟨j,e,q1,q2,q⟩:=q1;subst e;cases r1 with
 | cons r rr =>
  cases rr;obtain ⟨t,rfl⟩:=r;exact call_range_1 (Br I1 (by omega) (by omega) q1 q2 (by simpa using q))
noncomputable def HN (wi:TI) (g:TG) (tb:TS):TS:=λ D σ H=>wi σ H λ J H1=>∃ W:Nat->Nat->St->Hp->Prop,(∃ m,W 0 m σ H1)/\∀ i m σ H,W i m σ H ->
 (J.stop i H/\D.nx σ H)\/(J.go i H/\∃ N:St->Hp->Prop,(∀ σ' H',N σ' H'->∃ m',m' < m/\W (i+1) m' σ' H')/\∀ x H',J.yld i H x H'->g x σ H' λ σ2 H2=>tb { D with nx:=N,ct:=N,bk:=D.nx } σ2 H2)
noncomputable def uM (fp:List IS) (h:Heap):List (IS×Obj):=fp.filterMap λ b=>(h.get? b).map λ o=>(b,o)
theorem og {fp:List IS} {h:Heap} {b:IS} {o:Obj} (hb:b∈fp) (e:h.get? b=some o):(b,o)∈uM fp h:=List.mem_filterMap.mpr ⟨b,hb,by rw [e]; rfl⟩
theorem AK {fp:List IS} {h:Heap} {p:IS×Obj} (hp:p∈uM fp h):p.1∈fp/\h.get? p.1=some p.2:=by
 obtain ⟨b,hb,e⟩:=List.mem_filterMap.mp hp;cases q:h.get? b with
 | none=>rw [q] at e; cases e
 | some o =>
  rw [q] at e;have e':(b,o)=p:=Option.some.inj e;subst e';exact ⟨hb,q⟩
theorem Inv.pinned {pins:List (IS×Obj)} {σ:St} {H:Hp} {s:IG} {fp:List IS} (I:Inv X pins σ H s) (hf:∀ b∈fp,pZ X pins H b) (ho:∀ b∈fp,∃ o,s.heap.get? b=some o/\∀ v,o.data≠.cell v):Inv X (pins++uM fp s.heap) σ H s :=
 I.pins_of λ p hp=>(JF.mp hp).elim (λ z=>I.pin p (Ju _ z)) λ z=>by
  obtain ⟨hb,e⟩:=AK z;obtain ⟨f0,f1,f2,_⟩:=hf p.1 hb;obtain ⟨o,e',d⟩:=ho p.1 hb;rw [e] at e'; cases e';exact ⟨e,f0,f1,f2,d⟩
theorem Inv.unpinned {pins pl:List (IS×Obj)} {σ:St} {H:Hp} {s:IG} (I:Inv X (pins++pl) σ H s):Inv X pins σ H s:=I.pins_of λ p hp=>I.pin p (Ju _ (JL _ hp))
theorem yT {iter:Expr} {body:List Stmt} {wi:TI} {g:TG} {tb:TS} {pos:Pos} (hp:PassesOwn (Jt X.prog X.w) X.A X.env X.xe) (hc:X.calm=true) (hi:PI X tg iter wi) (hg:PG X tg g) (hb:PSs X body tb)
  (hs:∀ x,foldedSetIterable iter X.env x=pure x:=by intro _; rfl):PS X (.For tg iter body [] pos) (HN wi g tb):=by
 intro pins s σ H D I h;refine wpAny_For (thn (hi pins s σ H _ I h) λ v s1 h1=>thn h1 λ itv s2 h2=>?_) hs;obtain ⟨it,fp,tn,J,H2,e,I2,T,st2,f2,W,⟨m0,w0⟩,turn⟩:=h2;subst e;have stat:∀ {H':Hp},(∀ b∈fp,H' b=none)->∀ b∈fp,pZ X pins H' b:=λ hn b hb=>⟨hn b hb,(f2 b hb).2⟩;refine codeAny_forLoop_any (λ n s'=>∃ i σ' H',Inv X pins σ' H' s'/\tn i s'.heap/\(∀ b∈fp,H' b=none)/\W i n σ' H') ?_ m0 ⟨0,σ,H2,I2,st2,λ b hb=>(f2 b hb).1,w0⟩
 rintro n s3 ⟨i,σ3,H3,I3,st3,fr3,w3⟩
 rcases turn i n σ3 H3 w3 with ⟨stop,qn⟩ | ⟨go,N,hN,step⟩
 ·refine wpAny_passesOwn hp (thn (T.done X rfl rfl rfl hc i pins s3 σ3 H3 X.xe I3 (stat fr3) st3 stop) λ r s4 ⟨hr,I4⟩=>?_);subst hr;exact wpAny_execs_nil ⟨σ3,H3,I4,qn⟩
 ·refine wpAny_passesOwn hp (thn (T.item X rfl rfl rfl hc i pins s3 σ3 H3 X.xe I3 (stat fr3) st3 go) λ r s4 ⟨u,hr,h4⟩=>?_);subst hr;refine wpAny_passesOwn hp (thn h4 λ _ s5 ⟨x,H5,I5,r5,y5,st5,fr5⟩=>?_);have I5':=I5.pinned (stat fr5) (T.obj _ _ st5);refine wpAny_passesOwn hp (thn (hg _ s5 σ3 H5 x u _ I5' r5 (step x H5 y5)) λ _ s6 ⟨σ6,H6,I6,q6⟩=>?_);refine wpAny_passesOwn hp (thn (hb _ s6 σ6 H6 _ I6 q6) λ f s7 q7=>?_);have again:∀ {σ7:St} {H7:Hp},Inv X (pins++uM fp s5.heap) σ7 H7 s7->N σ7 H7->∃ m,m < n/\∃ i σ' H',Inv X pins σ' H' s7/\tn i s7.heap/\(∀ b∈fp,H' b=none)/\W i m σ' H':=λ {σ7 H7} I7 n7=>by
   obtain ⟨m',hm,w7⟩:=hN σ7 H7 n7;refine ⟨m',hm,i+1,σ7,H7,I7.unpinned,T.keep _ _ _ st5 λ b hb o e=>(I7.pin (b,o) (Ju _ (Ju _ (og hb e)))).1,λ b hb=>?_,w7⟩;obtain ⟨o,e,d⟩:=T.obj _ _ st5 b hb;exact (I7.pin (b,o) (Ju _ (Ju _ (og hb e)))).2.1
  cases f with
  | next=>obtain ⟨σ7,H7,I7,n7⟩:=q7; exact again I7 n7
  | cont=>obtain ⟨σ7,H7,I7,n7⟩:=q7; exact again I7 n7
  | brk=>obtain ⟨σ7,H7,I7,q7⟩:=q7; exact ⟨σ7,H7,I7.unpinned,q7⟩
  | ret v=>obtain ⟨x7,σ7,H7,I7,r7,q7⟩:=q7; exact ⟨x7,σ7,H7,I7.unpinned,r7,q7⟩
end
noncomputable abbrev R2:=V->V->Hp->VK->Prop
noncomputable def OpR (X:Cx) (f:IE->IE->Sem IE) (r:R2):Prop :=
 ∀ (pins:List (IS×Obj)) (s:IG) (σ:St) (H:Hp) (x y:V) (v u:IE) (Q:VK),Inv X pins σ H s->RelV x v->RelV y u->r x y H Q ->
  Jp (Jt X.prog X.w) X.A (f v u) (EP X pins σ Q) X.xe s
noncomputable def UnR (X:Cx) (f:IE->Sem IE) (r:V->Hp->VK->Prop):Prop :=
 ∀ (pins:List (IS×Obj)) (s:IG) (σ:St) (H:Hp) (x:V) (v:IE) (Q:VK),Inv X pins σ H s->RelV x v->r x H Q ->
  Jp (Jt X.prog X.w) X.A (f v) (EP X pins σ Q) X.xe s
noncomputable def CallR (X:Cx) (f:IE) (r:List V->Hp->VK->Prop):Prop :=
 ∀ (pins:List (IS×Obj)) (s:IG) (σ:St) (H:Hp) (xs:List V) (us:List IE) (Q:VK),Inv X pins σ H s->Vals xs us->r xs H Q ->
  Jp (Jt X.prog X.w) X.A (call f us) (EP X pins σ Q) X.xe s
noncomputable def Io (X:Cx) (r:V->Hp->(Bool->Hp->Prop)->Prop):Prop :=
 ∀ (pins:List (IS×Obj)) (s:IG) (σ:St) (H:Hp) (x:V) (v:IE) (Q:Bool->Hp->Prop),Inv X pins σ H s->RelV x v->r x H Q ->
  Jp (Jt X.prog X.w) X.A (truthy v) (TP X pins σ Q) X.xe s
noncomputable def tOp (r:R2) (ta tb:TE):TE:=λ σ H Q=>ta σ H λ x H1=>tb σ H1 λ y H2=>r x y H2 Q
noncomputable def tUn (r:V->Hp->VK->Prop) (ta:TE):TE:=λ σ H Q=>ta σ H λ x H1=>r x H1 Q
noncomputable def rI (C:Int->Int->Prop) (g:Int->Int->V):R2:=λ x y H Q=>∃ i j,x=.int i/\y=.int j/\C i j/\Q (g i j) H
noncomputable def rI0 (g:Int->Int->V):R2:=λ x y H Q=>∃ i j,x=.int i/\y=.int j/\Q (g i j) H
noncomputable def rU (g:Int->V):V->Hp->VK->Prop:=λ x H Q=>∃ i,x=.int i/\Q (g i) H
section
variable {X:Cx} {a b c:Expr} {ta tb tc:TE} {pos:Pos}
theorem Ge (ha:PE X a ta) (hb:PE X b tb) {pins:List (IS×Obj)} {s:IG} {σ:St} {H:Hp} {R:V->V->Hp->Prop} (I:Inv X pins σ H s)
  (h:ta σ H λ x H1=>tb σ H1 λ y H2=>R x y H2) {Q:IE->IG->Prop} {f:IE->IE->Sem IE}
  (hf:∀ v u s2 x y H2,Inv X pins σ H2 s2->RelV x v->RelV y u->R x y H2->Jp (Jt X.prog X.w) X.A (f v u) Q X.xe s2) :
  Jp (Jt X.prog X.w) X.A (eval a X.env) (λ v s₁=>Jp (Jt X.prog X.w) X.A (eval b X.env) (λ u s₂=>Jp (Jt X.prog X.w) X.A (f v u) Q X.xe s₂) X.xe s₁) X.xe s:=by
 refine thn (ha pins s σ H _ I h) λ v s1 ⟨x,H1,I1,r1,q1⟩=>?_;refine thn (hb pins s1 σ H1 _ I1 q1) λ u s2 ⟨y,H2,I2,r2,q2⟩=>?_;exact hf v u s2 x y H2 I2 r1 r2 q2
theorem EM {op:Operator} {r:R2} (ho:OpR X (binaryOp op) r) (ha:PE X a ta) (hb:PE X b tb):PE X (.BinOp a op b pos) (tOp r ta tb):=by
 intro pins s σ H Q I h;exact wpAny_BinOp (Ge ha hb I h λ v u s2 x y H2 I2 rx ry q=>ho pins s2 σ H2 x y v u Q I2 rx ry q)
theorem GX {op:UnaryOp} {r:V->Hp->VK->Prop} (ho:UnR X (unaryOp op) r) (ha:PE X a ta):PE X (.UnaryOp op a pos) (tUn r ta):=by
 intro pins s σ H Q I h;exact UnaryOp_ (thn (ha pins s σ H _ I h) λ v s1 ⟨x,H1,I1,r1,q1⟩=>ho pins s1 σ H1 x v Q I1 r1 q1)
theorem opI {f:IE->IE->Sem IE} {C:Int->Int->Prop} {g:Int->Int->Int}
  (rule:∀ (i j:Int) (t u:Tok) (s:IG) (Q:IE->IG->Prop) (E:IE->IG->Prop),C i j->Q (.int (g i j) s.toks) { s with toks:=s.toks+1 }->Jp (Jt X.prog X.w) X.A (f (.int i t) (.int j u)) Q E s) :
  OpR X f (rI C λ i j=>.int (g i j)):=by
 intro pins s σ H x y v u Q I rx ry h;obtain ⟨i,j,rfl,rfl,hc,q⟩:=h;obtain ⟨t,rfl⟩:=rx;obtain ⟨t',rfl⟩:=ry;exact rule i j t t' s _ _ hc ⟨.int (g i j),H,I.tok _,⟨_,rfl⟩,q⟩
theorem GZ {f:IE->IE->Sem IE} {g:Int->Int->Int}
  (rule:∀ (i j:Int) (t u:Tok) (s:IG) (Q:IE->IG->Prop) (E:IE->IG->Prop),Q (.int (g i j) s.toks) { s with toks:=s.toks+1 }->Jp (Jt X.prog X.w) X.A (f (.int i t) (.int j u)) Q E s) :
  OpR X f (rI0 λ i j=>.int (g i j)):=by
 intro pins s σ H x y v u Q I rx ry h;obtain ⟨i,j,rfl,rfl,q⟩:=h;obtain ⟨t,rfl⟩:=rx;obtain ⟨t',rfl⟩:=ry;exact rule i j t t' s _ _ ⟨.int (g i j),H,I.tok _,⟨_,rfl⟩,q⟩
theorem G0 {f:IE->IE->Sem IE} {g:Int->Int->Bool}
  (rule:∀ (i j:Int) (t u:Tok) (s:IG) (Q:IE->IG->Prop) (E:IE->IG->Prop),Q (.bool (g i j)) s->Jp (Jt X.prog X.w) X.A (f (.int i t) (.int j u)) Q E s) :
  OpR X f (rI0 λ i j=>.bl (g i j)):=by
 intro pins s σ H x y v u Q I rx ry h;obtain ⟨i,j,rfl,rfl,q⟩:=h;obtain ⟨t,rfl⟩:=rx;obtain ⟨t',rfl⟩:=ry;exact rule i j t t' s _ _ ⟨.bl (g i j),H,I,rfl,q⟩
noncomputable def CDiv (i j:Int):Prop:=0 < j/\j < 1073741824
noncomputable def CMul (i j:Int):Prop:=(-(2 ^ 64) < i/\i < 2 ^ 64)\/(-(2 ^ 64) < j/\j < 2 ^ 64)
theorem CMul.ok {i j:Int} (h:CMul i j):IntMulOk i j:=by
 rcases h with ⟨h1,h2⟩ | ⟨h1,h2⟩
 ·exact .of_left (intBits_le_64 h1 h2)
 ·exact .of_right (intBits_le_64 h1 h2)
theorem op_add:OpR X (binaryOp .Add) (rI0 λ i j=>.int (i+j)):=GZ λ _ _ _ _ _ _ _ q=>add_int q
theorem FI:OpR X (binaryOp .Sub) (rI0 λ i j=>.int (i - j)):=GZ λ _ _ _ _ _ _ _ q=>sub_int q
theorem FK:OpR X (binaryOp .Mult) (rI CMul λ i j=>.int (i*j)):=opI λ _ _ _ _ _ _ _ hc q=>mul_int q hc.ok
theorem DH:OpR X (binaryOp .FloorDiv) (rI CDiv λ i j=>.int (i / j)):=opI λ i j _ _ _ _ _ hc q=>by
 have h1:(0:Int) < j:=hc.1;have h2:j < 1073741824:=hc.2;exact floordiv_int (by omega) (by rw [Int.fdiv_eq_ediv_of_nonneg i (by omega)]; exact q) (.inl (PyProof.noPylong_small (by omega)))
theorem FL:OpR X (binaryOp .Mod) (rI (λ _ j=>0 < j) λ i j=>.int (i % j)):=opI λ i j _ _ _ _ _ hc q=>by
 have h1:(0:Int) < j:=hc;exact mod_int' (by omega) (by rw [Int.fmod_eq_emod_of_nonneg i (by omega)]; exact q)
theorem unI {f:IE->Sem IE} {g:Int->Int}
  (rule:∀ (i:Int) (t:Tok) (s:IG) (Q:IE->IG->Prop) (E:IE->IG->Prop),Q (.int (g i) s.toks) { s with toks:=s.toks+1 }->Jp (Jt X.prog X.w) X.A (f (.int i t)) Q E s) :
  UnR X f (rU λ i=>.int (g i)):=by
 intro pins s σ H x v Q I rx h;obtain ⟨i,rfl,q⟩:=h;obtain ⟨t,rfl⟩:=rx;exact rule i t s _ _ ⟨.int (g i),H,I.tok _,⟨_,rfl⟩,q⟩
theorem Fe:UnR X (unaryOp .USub) (rU λ i=>.int (-i)):=unI λ _ _ _ _ _ q=>neg_int q
end
section
variable {X:Cx} {a b c:Expr} {ta tb tc:TE} {pos:Pos}
theorem zj {pins:List (IS×Obj)} {σ:St} {H:Hp} {s:IG} {Q:VK} {k k':Bool} (I:Inv X pins σ H s) (q:Q (.bl k) H) (e:k=k'):EP X pins σ Q (.bool k') s:=by
 subst e;exact ⟨.bl k,H,I,rfl,q⟩
theorem ER:OpR X (JG .Lt) (rI0 λ i j=>.bl (decide (i < j))):=G0 λ _ _ _ _ _ _ _ q=>lt_int q
theorem BT:OpR X (JG .LtE) (rI0 λ i j=>.bl (decide (i<=j))):=G0 λ _ _ _ _ _ _ _ q=>le_int q
theorem AH:OpR X (JG .In) (λ x y H Q=>∃ i j,x=.str i/\y=.str j/\Q (.bl (!(Builtin.Str.occurrences j i 0 j.length 1).isEmpty)) H):=by
 intro pins s σ H x y v u Q I rx ry h;obtain ⟨i,j,rfl,rfl,q⟩:=h;obtain ⟨t,rfl⟩:=rx;obtain ⟨t',rfl⟩:=ry;exact in_str (zj I q rfl)
theorem FM:OpR X (JG .Is) (λ x y H Q=>y=.non/\Q (.bl (decide (x=.non))) H):=by
 intro pins s σ H x y v u Q I rx ry h;obtain ⟨rfl,q⟩:=h;cases ry;refine is_none_gen (zj I q ?_);cases x <;> first
  | (cases rx; rfl)
  | (obtain ⟨t,rfl⟩:=rx; rfl)
theorem DG:OpR X (JG .IsNot) (λ x y H Q=>y=.non/\Q (.bl (!decide (x=.non))) H):=by
 intro pins s σ H x y v u Q I rx ry h;obtain ⟨rfl,q⟩:=h;cases ry;refine isnot_none_gen (zj I q ?_);cases x <;> first
  | (cases rx; rfl)
  | (obtain ⟨t,rfl⟩:=rx; rfl)
theorem OpR.or {f:IE->IE->Sem IE} {r r':R2} (h:OpR X f r) (h':OpR X f r'):OpR X f (λ x y H Q=>r x y H Q\/r' x y H Q):=by
 intro pins s σ H x y v u Q I rx ry q;rcases q with q | q
 ·exact h pins s σ H x y v u Q I rx ry q
 ·exact h' pins s σ H x y v u Q I rx ry q
theorem nomark (b:Expr) {op:CmpOp} (h:op≠.In:=by decide) (h2:op≠.NotIn:=by decide):Jz op b=false:=by
 have e1:(op==CmpOp.In)=false:=by cases op <;> first | rfl | exact absurd rfl h
 have e2:(op==CmpOp.NotIn)=false:=by cases op <;> first | rfl | exact absurd rfl h2
 cases b <;> simp [Jz,e1,e2]
theorem zR {op:CmpOp} {r:R2} (ho:OpR X (JG op) r) (ha:PE X a ta) (hb:PE X b tb) (hm:Jz op b=false):PE X (.Compare a [op] [b] pos) (tOp r ta tb):=by
 intro pins s σ H Q I h;exact wpAny_Compare1 (Ge ha hb I h λ v u s2 x y H2 I2 rx ry q=>ho pins s2 σ H2 x y v u Q I2 rx ry q) hm
noncomputable def GB (t:TE):TT:=λ σ H Q=>t σ H λ x H'=>∃ k,x=.bl k/\Q k H'
theorem Dt {op:CmpOp} {r:R2} (ho:OpR X (JG op) r) (ha:PE X a ta) (hb:PE X b tb) (hm:Jz op b=false):PT X (.Compare a [op] [b] pos) (GB (tOp r ta tb)):=by
 intro pins s σ H Q I h;refine wpAny_isTrue_Compare1 (thn (ha pins s σ H _ I h) λ v s1 ⟨x,H1,I1,r1,q1⟩=>thn (hb pins s1 σ H1 _ I1 q1) λ u s2 ⟨y,H2,I2,r2,q2⟩ =>
  thn (ho pins s2 σ H2 x y v u _ I2 r1 r2 q2) λ c s3 ⟨z,H3,I3,r3,k,e,q3⟩=>?_) hm
 subst e;cases r3;exact wpAny_truthy_bool ⟨H3,I3,q3⟩
noncomputable def Fp (r r':R2) (ta tb tc:TE):TE:=λ σ H Q=>ta σ H λ x H1=>tb σ H1 λ y H2=>r x y H2 λ z H3=>∃ k,z=.bl k /\
 (if k=true then tc σ H3 λ w' H4=>r' y w' H4 Q else Q (.bl false) H3)
theorem BN {op op':CmpOp} {r r':R2} (ho:OpR X (JG op) r) (ho':OpR X (JG op') r') (ha:PE X a ta) (hb:PE X b tb) (hc:PE X c tc)
  (hm:lastMarks [op,op'] [b,c]=false:=by with_unfolding_all rfl):PE X (.Compare a [op,op'] [b,c] pos) (Fp r r' ta tb tc):=by
 intro pins s σ H Q I h;refine Compare_chain (thn (ha pins s σ H _ I h) λ v s1 ⟨x,H1,I1,r1,q1⟩=>chain_link (thn (hb pins s1 σ H1 _ I1 q1) λ u s2 ⟨y,H2,I2,r2,q2⟩ =>
  thn (ho pins s2 σ H2 x y v u _ I2 r1 r2 q2) λ d s3 ⟨z,H3,I3,r3,k,e,q3⟩=>?_)) hm
 subst e;cases r3;refine wpAny_truthy_bool ?_;cases k with
 | false=>exact ite_ff ⟨.bl false,H3,I3,rfl,q3⟩
 | true=>exact ite_tt (chain_last (thn (hc pins s3 σ H3 _ I3 q3) λ w' s4 ⟨z',H4,I4,r4,q4⟩=>ho' pins s4 σ H4 y z' u w' Q I4 r2 r4 q4))
noncomputable def Gq (K:Iv) (x:V) (H:Hp) (k:Bool):Prop :=
 match x with
 | .non=>k=false
 | .bl b=>k=b
 | .int i=>k=(i != 0)
 | .str y=>y.length<=IB/\k=((y.length:Int) != 0)
 | .byt y=>y.size<=IB/\k=((y.size:Int) != 0)
 | .ref p=>(∃ xs,SqL K H p xs/\k=!xs.isEmpty)\/(∃ xs,SqT K H p xs/\k=!xs.isEmpty)\/∃ kvs,H p=some (.dK kvs)/\k=!kvs.isEmpty
 | _=>False
theorem ze {κ:Type} {kvs:List (κ×V)} {vs:List (κ×IE)} (r:KV kvs vs):(!vs.isEmpty)=!kvs.isEmpty:=by
 cases r <;> rfl
theorem vf {xs:List V} {its:List IE} (r:Vals xs its):(!its.toArray.isEmpty)=!xs.isEmpty:=by
 cases r <;> simp
theorem sI:(IB:Nat) < 2 ^ 63:=by rw [sizeLine_eq]; decide
theorem Fh:Io X (λ x H Q=>∃ k,Gq X.K x H k/\Q k H):=by
 intro pins s σ H x v Q I rx h;obtain ⟨k,e,q⟩:=h;have hl:=sI;have hs:IB=16777216:=sizeLine_eq;cases x with
 | non =>
  cases rx;have e':k=false:=e;subst e';exact truthy_none ⟨H,I,q⟩
 | bl b =>
  cases rx;have e':k=b:=e;subst e';exact wpAny_truthy_bool ⟨H,I,q⟩
 | int i =>
  obtain ⟨t,rfl⟩:=rx;have e':k=(i != 0):=e;subst e';exact PySem.P.truthy_int ⟨H,I,q⟩
 | str y =>
  obtain ⟨t,rfl⟩:=rx;obtain ⟨hy,e'⟩:y.length<=IB/\k=((y.length:Int) != 0):=e;subst e';exact PySem.P.truthy_str (by omega) ⟨H,I.tok _,q⟩
 | byt y =>
  obtain ⟨t,rfl⟩:=rx;obtain ⟨hy,e'⟩:y.size<=IB/\k=((y.size:Int) != 0):=e;subst e';exact PySem.W.truthy_bytes (by omega) ⟨H,I.tok _,q⟩
 | ref p =>
  cases rx;have e':(∃ xs,SqL X.K H p xs/\k=!xs.isEmpty)\/(∃ xs,SqT X.K H p xs/\k=!xs.isEmpty)\/∃ kvs,H p=some (.dK kvs)/\k=!kvs.isEmpty:=e;rcases e' with ⟨xs,hx,e'⟩ | ⟨xs,hx,e'⟩ | ⟨kvs,hx,e'⟩
  ·subst e';obtain ⟨its,r,pl,hz⟩:=I.list hx;have hlen:=r.length;exact wpAny_truthy_list pl.isList (by simp only [IL]; omega) ⟨H,I.tok _,by rw [vf r]; exact q⟩
  ·subst e';obtain ⟨its,r,pl,hz⟩:=I.tuple hx;have hlen:=r.length;exact truthy_tuple pl (by simp only [IL]; omega) ⟨H,I.tok _,by rw [vf r]; exact q⟩
  ·subst e';obtain ⟨hz,hS,vs,r,m⟩:kvs.length<=IB/\(p==sysModules)=false/\∃ vs,KV kvs vs/\s.heap.DictOf (eG X.prog X.w) p vs:=I.hok p _ hx;have hlen:kvs.length=vs.length:=Paired.length r;exact wpAny_truthy_dict hS m (by omega) ⟨H,I.tok _,by rw [ze r]; exact q⟩
 | _=>exact (show False from e).elim
theorem Bx (ha:PE X a ta) (he:∀ whole,isTrue a X.env whole=(do let v <- whole; standAt a.pos; holding [v] (truthy v))) :
  PT X a (λ σ H Q=>ta σ H λ x H'=>∃ k,Gq X.K x H' k/\Q k H'):=by
 intro pins s σ H Q I h;exact isTrue_plain (thn (ha pins s σ H _ I h) λ v s1 ⟨x,H1,I1,r1,q1⟩=>Fh pins s1 σ H1 x v Q I1 r1 q1) (he _)
theorem op_add_str:OpR X (binaryOp .Add) (λ x y H Q=>∃ i j,x=.str i/\y=.str j/\i.length+j.length<=IB/\Q (.str (i++j)) H):=by
 intro pins s σ H x y v u Q I rx ry h;obtain ⟨i,j,rfl,rfl,hz,q⟩:=h;obtain ⟨t,rfl⟩:=rx;obtain ⟨t',rfl⟩:=ry;exact add_str (λ t' tk=>⟨.str (i++j),H,I.tok _,⟨_,rfl⟩,q⟩) hz
theorem oY {x:V} {us:List IE} (r:Vals [x] us):∃ u,us=[u]/\RelV x u:=by
 cases r with
 | cons r1 r2=>cases r2; exact ⟨_,rfl,r1⟩
theorem Bc {x y:V} {us:List IE} (r:Vals [x,y] us):∃ u w',us=[u,w']/\RelV x u/\RelV y w':=by
 cases r with
 | cons r1 r2 =>
  cases r2 with
  | cons r3 r4=>cases r4; exact ⟨_,_,rfl,r1,r3⟩
theorem A0 (hc:X.calm=true):CallR X (.builtin "max") (λ xs H Q=>∃ i j,xs=[.int i,.int j]/\Q (.int (if j > i then j else i)) H):=by
 intro pins s σ H xs us Q I r h;obtain ⟨i,j,rfl,q⟩:=h;obtain ⟨u,w',rfl,⟨t,rfl⟩,⟨t',rfl⟩⟩:=Bc r;refine max_two_ints (I.ok.hd hc) λ h' tk k=>⟨_,H,I.kept k,?_,q⟩;by_cases hj:j > i
 ·rw [if_pos hj,if_pos hj]; exact ⟨_,rfl⟩
 ·rw [if_neg hj,if_neg hj]; exact ⟨_,rfl⟩
theorem AZ (hc:X.calm=true):CallR X (.builtin "min") (λ xs H Q=>∃ i j,xs=[.int i,.int j]/\Q (.int (if j < i then j else i)) H):=by
 intro pins s σ H xs us Q I r h;obtain ⟨i,j,rfl,q⟩:=h;obtain ⟨u,w',rfl,⟨t,rfl⟩,⟨t',rfl⟩⟩:=Bc r;refine min_two_ints (I.ok.hd hc) λ h' tk k=>⟨_,H,I.kept k,?_,q⟩;by_cases hj:j < i
 ·rw [if_pos hj,if_pos hj]; exact ⟨_,rfl⟩
 ·rw [if_neg hj,if_neg hj]; exact ⟨_,rfl⟩
theorem A3:CallR X (.type "int") (λ xs H Q=>(∃ i,xs=[.int i]/\Q (.int i) H)\/∃ k,xs=[.bl k]/\Q (.int (if k then 1 else 0)) H):=by
 intro pins s σ H xs us Q I r h;rcases h with ⟨i,rfl,q⟩ | ⟨k,rfl,q⟩
 ·obtain ⟨u,rfl,t,rfl⟩:=oY r;exact call_int_int ⟨.int i,H,I,⟨_,rfl⟩,q⟩
 ·obtain ⟨u,rfl,r1⟩:=oY r;cases r1;exact call_int_bool ⟨.int (if k then 1 else 0),H,I.tok _,⟨_,rfl⟩,q⟩
end
structure ObjM (h:Heap) (x dx C:IS) (mA:Str->Option IE):Prop where
 obj:h.get? x=some (JR C dx)
 ns:h.Ns1 dx mA
 ne:dx≠x
theorem AO {h:Heap} {dx:IS} {mA:Str->Option IE} (n:h.Ns1 dx mA):∃ od,h.get? dx=some od/\∀ name,Kt name od=some (mA name):=by
 obtain ⟨o,es,ep,ho,hd,hk,_,hm⟩:=n;refine ⟨o,ho,λ name=>?_⟩;have e:=hm name;unfold nsFind findBy at e;rw [<- Array.find?_toList] at e;unfold Kt;rw [hd];dsimp only
 split
 ·rename_i y q;rw [q] at e;exact congrArg some e
 ·rename_i q;rw [q] at e;have a:es.toList.any (·.refKey)=false:=by
   rw [List.any_eq_false];intro y hy;obtain ⟨z,t,hkey⟩:=hk y (Array.mem_toList_iff.mp hy);simp [DictEntry.refKey,hkey]
  have a':¬ es.toList.any (·.refKey)=true:=by rw [a]; exact IT
  rw [if_neg a'];exact congrArg some e
theorem ObjM.look {h:Heap} {x dx C:IS} {mA:Str->Option IE} (I:ObjM h x dx C mA):∃ od,PySem.W.InstAt h x (JR C dx) C (some od)/\∀ name,Kt name od=some (mA name) :=
 let ⟨od,ho,hl⟩:=AO I.ns
 ⟨od,⟨I.obj,rfl,rfl,ho⟩,hl⟩
section
variable {prog:Jg} {w:World} {A:JH} {E:IE->IG->Prop} {s:IG} {K:Iv} {x dx C f:IS} {mA:Str->Option IE} {name:Str} {v:IE}
theorem Eg {expr:Bool} {Q:IE->IG->Prop} (X:K.In s.heap) (I:ObjM s.heap x dx C mA) (hg:Kn K C name=true) (hh:PySem.W.hasDictIn K C=true)
  (ha:Jy K (.ref C) name=some none) (hv:mA name=some v) (hv':PySem.W.handedIn v=true) (h:Q v { s with toks:=s.toks+1 }) :
  Jp (Jt prog w) A (getAttr (.ref x) name expr) Q E s:=by
 obtain ⟨od,J,hl⟩:=I.look;exact PySem.W.get_value X J (KA hg).1 (PySem.W.findObj_own hh ha rfl (by rw [hl,hv])) hv' h
theorem Cn {pl:Sem Bool} {Q:IE×List IE->IG->Prop} (X:K.In s.heap) (I:ObjM s.heap x dx C mA) (hg:Kn K C name=true)
  (hf:Jy K (.ref C) name=some (some (.ref f))) (ht:PySem.W.isFn K (.ref f)=true) (hv:mA name=none) (h:Q (.ref f,[.ref x]) s) :
  Jp (Jt prog w) A (getMethod (.ref x) name pl) Q E s:=by
 obtain ⟨od,J,hl⟩:=I.look;exact PySem.W.method_fn X J (KA hg).1 (KA hg).2 hf (beq_iff_eq.mp ht) (by show (Kt name od).map (·.isSome)=some false; rw [hl,hv]; rfl) h
theorem Dg {ns:List Str} {Q:Unit->IG->Prop} (X:K.In s.heap) (I:ObjM s.heap x dx C mA)
  (hs:Jy K (.ref C) "__setattr__" = some (some (.builtin "object.__setattr__"))) (hp:PySem.W.plainOver K C=true) (ht:PySem.W.takerIn K C name=some none) (hh:PySem.W.hasDictIn K C=true)
  (hw:PySem.Within mA ns) (hsz:ns.length<=IB)
  (h:∀ h',ObjM h' x dx C (λ y=>if y=name then some v else mA y)->Heap.SameBut dx s.heap h'->Q () { s with heap:=h',toks:=s.toks+2 }) :
  Jp (Jt prog w) A (setAttr (.ref x) name v) Q E s:=by
 obtain ⟨od,J,hl⟩:=I.look;refine PySem.W.set_plain X J hs (PySem.W.osa_open (s:={ s with toks:=s.toks+1 }) (r:=none) X J hp ht λ b=>?_);obtain ⟨cd,hc,hd'⟩:=PySem.W.any_some hh;have hx:s.heap.get? x=some ⟨.ref C,some dx,.plain,#[]⟩:=I.obj;refine IR (Ja (IR (IR (wpAny_loadPart hx (IR (PySem.W.Looks.here (s:={ s with toks:=s.toks+1 }) (PySem.W.looks_clsIn X hc) ?_))))));rw [hd'];refine Ja (a:=some dx) (IR (Ja (IR ?_)));refine wpAny_nsSet1 (s:={ s with toks:=s.toks+1 }) I.ns λ h' hn2 hs2=>?_;obtain ⟨oD,esD,epD,hoD,hdD,hcD⟩:=hn2.count (PySem.Within.cons name v hw);refine IR (wpAny_lookBehind hoD (by rw [hdD]; exact pastItsLine_dict (Jd hcD (by rw [IX]; omega))) ?_);exact Ja (h _ ⟨(hs2.2 _ (Ne.symm I.ne)).trans I.obj,hn2,I.ne⟩ hs2)
theorem BZ {R:Result->IG->Prop} {vs:List IE} {kw:List (Str×IE)} (X:K.In s.heap) (hm:PySem.W.makesIn K C=true)
  (hi:Jy K (.ref C) "__init__" = some (some (.ref f))) (hf:PySem.W.typeIn K (.ref f)=some (.type "function"))
  (h:codeAny (Jt prog w) (A.under (.builtin "type.__call__" ⟨.ref C::vs,kw⟩)) (.call (.ref f) ⟨.ref (s.heap.objs.size+1)::vs,kw⟩) (PySem.W.InitBack (s.heap.objs.size+1) R)
   { s with heap:=(s.heap.push JI).push (JR C s.heap.objs.size) }) :
  codeAny (Jt prog w) A (.call (.ref C) ⟨vs,kw⟩) R s:=by
 obtain ⟨hh,g,d,t,os⟩:=s;exact PySem.W.make_core (PySem.W.makes_of X hm) (PySem.W.looks_findIn X hi) (λ self=>PySem.W.bind_fn X self hf) (.inl rfl) h
end
noncomputable def n6 (f:Str) (v:V):List (Str×V)->List (Str×V)
 | []=>[(f,v)]
 | (g,x)::r=>if g=f then (g,v)::r else (g,x)::n6 f v r
theorem tF (f g:Str) (v:V):∀ fs:List (Str×V),(n6 f v fs).lookup g=if g=f then some v else fs.lookup g
 | []=>by
  show Ka g [(f,v)]=_;by_cases h:g=f
  ·have hb:(g==f)=true:=beq_iff_eq.mpr h;simp only [Ka,hb,if_pos h]
  ·have hb:(g==f)=false:=beq_eq_false_iff_ne.mpr h;simp only [Ka,hb,if_neg h]
 | (k,x)::r=>by
  have ih:=tF f g v r;rw [show n6 f v ((k,x)::r)=(if k=f then (k,v)::r else (k,x)::n6 f v r) from rfl];by_cases hk:k=f
  ·rw [if_pos hk];by_cases h:g=k
   ·have hb:(g==k)=true:=beq_iff_eq.mpr h;simp only [Ka,hb,if_pos (h.trans hk)]
   ·have hb:(g==k)=false:=beq_eq_false_iff_ne.mpr h;simp only [Ka,hb,if_neg (λ e:g=f=>h (e.trans hk.symm))]
  ·rw [if_neg hk];by_cases h:g=k
   ·have hb:(g==k)=true:=beq_iff_eq.mpr h;simp only [Ka,hb,if_neg (λ e:g=f=>hk (h.symm.trans e))]
   ·have hb:(g==k)=false:=beq_eq_false_iff_ne.mpr h;simp only [Ka,hb];exact ih
theorem sJ (f:Str) (v:V):∀ fs:List (Str×V),f∈(n6 f v fs).map (·.1)/\∀ g,g∈fs.map (·.1)->g∈(n6 f v fs).map (·.1)
 | []=>⟨by simp [n6],λ g h=>by simp at h⟩
 | (k,x)::r=>by
  obtain ⟨i1,i2⟩:=sJ f v r;rw [show n6 f v ((k,x)::r)=(if k=f then (k,v)::r else (k,x)::n6 f v r) from rfl];by_cases hk:k=f
  ·rw [if_pos hk];subst hk;exact ⟨by simp,λ g h=>by simpa using h⟩
  ·rw [if_neg hk];refine ⟨?_,λ g h=>?_⟩
   ·rw [IN];exact IQ _ i1
   ·rw [IN] at h ⊢;rcases IY.mp h with e | e
    ·exact IY.mpr (.inl e)
    ·exact IQ _ (i2 g e)
theorem tH (f:Str) (v:V):∀ fs:List (Str×V),(n6 f v fs).length<=fs.length+1
 | []=>by simp [n6]
 | (k,x)::r=>by
  have ih:=tH f v r;rw [show n6 f v ((k,x)::r)=(if k=f then (k,v)::r else (k,x)::n6 f v r) from rfl];by_cases hk:k=f
  ·rw [if_pos hk,IX,IX]; omega
  ·rw [if_neg hk,IX,IX]; omega
theorem RelO.some_of {v:V} {o:Option IE} (r:RelO (some v) o):∃ u,o=some u/\RelV v u:=by
 cases o with
 | none=>exact (show False from r).elim
 | some u=>exact ⟨u,rfl,r⟩
theorem RelO.none_of {o:Option IE} (r:RelO none o):o=none:=by
 cases o with
 | none=>rfl
 | some u=>exact (show False from r).elim
theorem AW {v:V} {u:IE} (r:RelV v u):PySem.W.handedIn u=true:=by
 cases v with
 | non=>cases (show u=Value.none from r); rfl
 | bl b=>cases (show u=Value.bool b from r); rfl
 | int i=>obtain ⟨t,e⟩:=(show ∃ t,u=Value.int i t from r); cases e; rfl
 | str x=>obtain ⟨t,e⟩:=(show ∃ t,u=Value.str x t from r); cases e; rfl
 | byt b=>obtain ⟨t,e⟩:=(show ∃ t,u=Value.bytes b t from r); cases e; rfl
 | flt b=>obtain ⟨t,e⟩:=(show ∃ t,u=Value.float b t from r); cases e; rfl
 | ref a=>cases (show u=Value.ref a from r); rfl
 | ty n=>cases (show u=Value.type n from r); rfl
section
variable {P:Jg} {w:World} {H H':Hp} {h h':Heap} {a C dx:IS} {fs fs':List (Str×V)}
theorem w8 (hok:HOk P w H h) (e:H a=some (.ins C dx fs)):∃ mA,ObjM h a dx C mA/\(∀ f,RelO (fs.lookup f) (mA f))/\PySem.Within mA (fs.map (·.1))/\fs.length<=1000/\H dx=some (.own a):=by
 obtain ⟨d,z,ne,ob,mA,n,r,q⟩:=(show ObjOk P w H h a (.ins C dx fs) from hok a _ e);exact ⟨mA,⟨ob,n,ne⟩,r,q,z,d⟩
end
structure Cls (K:Iv) (C:IS):Prop where
 pg:Kn K C Str.empty=true
 hd:PySem.W.hasDictIn K C=true
 po:PySem.W.plainOver K C=true
 sa:Jy K (.ref C) "__setattr__" = some (some (.builtin "object.__setattr__"))
theorem Cls.get {K:Iv} {C:IS} (c:Cls K C) (f:Str):Kn K C f=true:=c.pg
noncomputable def NoAttr (K:Iv) (C:IS) (f:Str):Prop:=Jy K (.ref C) f=some none
theorem NoAttr.taker {K:Iv} {C:IS} {f:Str} (n:NoAttr K C f):PySem.W.takerIn K C f=some none:=by
 unfold PySem.W.takerIn;rw [show Jy K (.ref C) f=some none from n];rfl
structure Con (K:Iv) (C:IS) (f:Str) (v:V) (u:IE):Prop where
 at_:Jy K (.ref C) f=some (some u)
 rel:RelV v u
 get:PySem.W.specialIn K u "__get__" = some none
 cp:PySem.W.copiedNames.contains f=false
structure Meth (K:Iv) (C:IS) (m:Str) (f:IS):Prop where
 at_:Jy K (.ref C) m=some (some (.ref f))
 fn:PySem.W.isFn K (.ref f)=true
 kp:JU K (.ref f)=true
section
variable {X:Cx} {pins:List (IS×Obj)} {σ:St} {H:Hp} {s:IG} {a C dx:IS} {fs:List (Str×V)} {f:Str} {v:V} {A:JH} {E:IE->IG->Prop}
theorem vi {b:Bool} {Q:IE->IG->Prop} (I:Inv X pins σ H s) (e:H a=some (.ins C dx fs)) (c:Cls X.K C) (n:NoAttr X.K C f) (l:fs.lookup f=some v)
  (h:∀ u s',Inv X pins σ H s'->RelV v u->Q u s'):Jp (Jt X.prog X.w) A (getAttr (.ref a) f b) Q E s:=by
 obtain ⟨mA,O,r,_,_,_⟩:=w8 I.hok e;obtain ⟨u,hu,ru⟩:=RelO.some_of (v:=v) (o:=mA f) (by rw [<- l]; exact r f);exact Eg I.kIn O (c.get f) c.hd n hu (AW ru) (h u _ (I.tok _) ru)
theorem vh {m:Str} {g:IS} {pl:Sem Bool} {Q:IE×List IE->IG->Prop} (I:Inv X pins σ H s) (e:H a=some (.ins C dx fs)) (c:Cls X.K C) (k:Meth X.K C m g) (l:fs.lookup m=none)
  (h:Q (.ref g,[.ref a]) s):Jp (Jt X.prog X.w) A (getMethod (.ref a) m pl) Q E s:=by
 obtain ⟨mA,O,r,_,_,_⟩:=w8 I.hok e;have hn:mA m=none:=RelO.none_of (by rw [<- l]; exact r m);exact Cn I.kIn O (c.get m) k.at_ k.fn hn h
theorem uC {y:V} {u:IE} {Q:Unit->IG->Prop} (I:Inv X pins σ H s) (e:H a=some (.ins C dx fs)) (c:Cls X.K C) (n:NoAttr X.K C f) (hl:fs.length < 1000) (ry:RelV y u)
  (h:∀ s',Inv X pins σ (upd H a (.ins C dx (n6 f y fs))) s'->Q () s'):Jp (Jt X.prog X.w) A (setAttr (.ref a) f u) Q E s:=by
 obtain ⟨mA,O,r,wi,_,ho⟩:=w8 I.hok e;have hz:(fs.map (·.1)).length<=IB:=by rw [Iy,sizeLine_eq]; omega
 refine Dg I.kIn O c.sa c.po n.taker c.hd wi hz λ h' O' sb=>h _ ?_;have hd:∃ o,h'.get? dx=some o:=let ⟨o,_,_,e',_⟩:=O'.ns; ⟨o,e'⟩;refine I.write (x:=a) (e:=dx) (by rw [e]; exact True.intro) (.inr ho) (λ b q hb z=>(sb.2 b hb).trans z) hd ?_;refine ⟨by rw [am O.ne]; exact ho,?_,O.ne,O'.obj,_,O'.ns,λ g=>?_,λ g hg=>?_⟩
 ·have:=tH f y fs; omega
 ·show RelO ((n6 f y fs).lookup g) (if g=f then some u else mA g);rw [tF];by_cases q:g=f
  ·rw [if_pos q,if_pos q]; exact ry
  ·rw [if_neg q,if_neg q]; exact r g
 ·by_cases q:g=f
  ·rw [q]; exact (sJ f y fs).1
  ·refine (sJ f y fs).2 g (wi g λ z=>hg ?_);show (if g=f then some u else mA g)=none;rw [if_neg q]; exact z
theorem Inv.made (I:Inv X pins σ H s):Inv X pins σ (upd (upd H s.heap.objs.size (.own (s.heap.objs.size+1))) (s.heap.objs.size+1) (.ins C s.heap.objs.size []))
  { s with heap:=(s.heap.push JI).push (JR C s.heap.objs.size) }:=by
 have e1:(s.heap.push JI).get? s.heap.objs.size=some JI:=Jf s.heap rfl;have e2:((s.heap.push JI).push (JR C s.heap.objs.size)).get? (s.heap.objs.size+1)=some (JR C s.heap.objs.size):=by
  have:=Jf (s.heap.push JI) (o:=JR C s.heap.objs.size) rfl
  rwa [Heap.size_push] at this
 have e3:(s.heap.push JI).Ns s.heap.objs.size (λ _=>none):=⟨JI,#[],_,e1,rfl,(λ e he=>absurd he (by simp)),λ _=>rfl⟩;have I1:=I.laid (a:=s.heap.objs.size) (o:=.own (s.heap.objs.size+1)) (h':=s.heap.push JI) (t':=s.toks) (λ b u q=>IK _ q) (IF _) ⟨_,e1⟩;refine I1.laid (a:=s.heap.objs.size+1) (o:=.ins C s.heap.objs.size []) (t':=s.toks) (λ b u q=>IK _ q) (Nat.le_of_eq (Heap.size_push _ _)) ?_;have ne:s.heap.objs.size≠s.heap.objs.size+1:=Je (Kc _);refine ⟨by rw [am ne,aw],Kf _,ne,e2,λ _=>none,(Heap.Ns1.of_empty e3).at λ o q=>IK _ q,λ _=>True.intro,λ y hy=>absurd rfl hy⟩
theorem Et {prog:Jg} {w:World} {env:Env} {e:Expr} {f:Str} {pos:Pos} {s:IG} {Q:IE->IG->Prop} (hb:attributeBase e f env (eval e env)=eval e env)
  (h:Jp (Jt prog w) A (eval e env) (λ o s₁=>Jp (Jt prog w) A (getAttr o f true) Q E s₁) E s):Jp (Jt prog w) A (eval (.Attribute e f pos) env) Q E s :=
 Attribute_any_ h (by rw [arm_eval_Attribute,hb])
end
noncomputable def HP (K:Iv) (ta:TE) (f:Str):TE:=λ σ H Q=>ta σ H λ x H1=>∃ a C dx fs v,x=.ref a/\H1 a=some (.ins C dx fs)/\Cls K C/\NoAttr K C f/\fs.lookup f=some v/\Q v H1
noncomputable def HV (K:Iv) (ta tv:TE) (f:Str):TS:=λ D σ H=>tv σ H λ y H1=>ta σ H1 λ x H2=>∃ a C dx fs,x=.ref a/\H2 a=some (.ins C dx fs)/\Cls K C/\NoAttr K C f/\fs.length < 1000 /\
 D.nx σ (upd H2 a (.ins C dx (n6 f y fs)))
noncomputable def Hz (X:Cx) (op:Operator) (rd:V->V->Hp->VK->Prop):Prop :=
 ∀ (pins:List (IS×Obj)) (s:IG) (σ:St) (H:Hp) (x y:V) (u v:IE) (Q:VK),Inv X pins σ H s->RelV x u->RelV y v->rd x y H Q->Jp (Jt X.prog X.w) X.A (inplaceOp op u v) (EP X pins σ Q) X.xe s
noncomputable def Dj (K:Iv) (ta tv:TE) (rd:V->V->Hp->VK->Prop) (f:Str):TS:=λ D σ H=>ta σ H λ x H1=>∃ a C dx fs v,x=.ref a/\H1 a=some (.ins C dx fs)/\Cls K C/\NoAttr K C f/\fs.lookup f=some v /\
 tv σ H1 λ y H2=>rd v y H2 λ z H3=>∃ dx' fs',H3 a=some (.ins C dx' fs')/\fs'.length < 1000/\D.nx σ (upd H3 a (.ins C dx' (n6 f z fs')))
section
variable {X:Cx} {o e value:Expr} {f:Str} {pos pos' tpos:Pos} {ta tv:TE}
theorem yW (he:PE X e ta) (hb:attributeBase e f X.env (eval e X.env)=eval e X.env):PE X (.Attribute e f pos) (HP X.K ta f):=by
 intro pins s σ H Q I h;refine Et hb (thn (he pins s σ H _ I h) λ u s1 ⟨x,H1,I1,rx,a,C,dx,fs,v,ex,ea,c,n,l,q⟩=>?_);subst ex;obtain rfl:u=Value.ref a:=rx;exact vi I1 ea c n l λ u' s2 I2 ru=>⟨v,H1,I2,ru,q⟩
theorem Fy (ha:PE X o ta) (hv:PE X value tv) (hs:swapsWith value (some (.Attribute o f pos')) pos.line X.env=pure false):PS X (.Assign [.Attribute o f pos'] value pos) (HV X.K ta tv f):=by
 intro pins s σ H D I h;refine plainObj_wpAny_Assign_Attribute (thn (hv pins s σ H _ I h) λ u s1 ⟨y,H1,I1,ry,q⟩=>thn (ha pins s1 σ H1 _ I1 q) λ ov s2 ⟨x,H2,I2,rx,a,C,dx,fs,ex,ea,c,n,l,q2⟩=>?_) hs;subst ex;obtain rfl:ov=Value.ref a:=rx;exact uC I2 ea c n l ry λ s3 I3=>⟨σ,_,I3,q2⟩
theorem AB {op:Operator} {rd:V->V->Hp->VK->Prop} (ha:PE X o ta) (hv:PE X value tv) (hop:Hz X op rd):PS X (.AugAssign (.Attribute o f tpos) op value pos) (Dj X.K ta tv rd f):=by
 intro pins s σ H D I h;refine wpAny_AugAssign_AttributeAny (thn (ha pins s σ H _ I h) λ ov s1 ⟨x,H1,I1,rx,a,C,dx,fs,v,ex,ea,c,n,l,q⟩=>?_);subst ex;obtain rfl:ov=Value.ref a:=rx;refine vi I1 ea c n l λ u s2 I2 ru=>thn (hv pins s2 σ H1 _ I2 q) λ w3 s3 ⟨y,H2,I3,ry,q3⟩=>thn (hop pins s3 σ H2 v y u w3 _ I3 ru ry q3) λ w4 s4 ⟨z,H3,I4,rz,dx',fs',ea',l',q4⟩=>?_;exact uC I4 ea' c n l' rz λ s5 I5=>⟨σ,_,I5,q4⟩
noncomputable def HW:V->V->Hp->VK->Prop:=λ x y H Q=>∃ i j,x=.int i/\y=.int j/\Q (.int (i+j)) H
theorem F0:Hz X .Add HW:=by
 rintro pins s σ H x y u v Q I rx ry ⟨i,j,rfl,rfl,q⟩
 obtain ⟨t,rfl⟩:=(show ∃ t,u=Value.int i t from rx);obtain ⟨t',rfl⟩:=(show ∃ t',v=Value.int j t' from ry);exact PyProof.Rows.iadd_int ⟨.int (i+j),H,I.tok _,⟨_,rfl⟩,q⟩
end
section
variable {X:Cx} {pins:List (IS×Obj)} {σ:St} {H:Hp} {s:IG} {A:JH} {E:IE->IG->Prop} {Q:IE->IG->Prop} {c:IE} {b:Bool}
inductive vG (K:Iv) (H:Hp):V->IE->Prop where
 | non:vG K H .non (.type "NoneType")
 | bl (x:Bool):vG K H (.bl x) (.type "bool")
 | int (i:Int):vG K H (.int i) (.type "int")
 | str (x:Str):vG K H (.str x) (.type "str")
 | flt (x:UInt64):vG K H (.flt x) (.type "float")
 | lst {a:IS} {xs:List V} (e:H a=some (.lst xs)):vG K H (.ref a) (.type "list")
 | frz {a:IS} {o:Obj} {xs:List V} (e:H a=some (.frz o (.lst xs))):vG K H (.ref a) (.type "list")
 | tup {a:IS} {xs:List V} (e:H a=some (.tup xs)):vG K H (.ref a) (.type "tuple")
 | dK {a:IS} {kvs:List (Key×V)} (e:H a=some (.dK kvs)):vG K H (.ref a) (.type "dict")
 | dT {a:IS} {kvs:List (List Key×V)} (e:H a=some (.dT kvs)):vG K H (.ref a) (.type "dict")
 | ins {a C dx:IS} {fs:List (Str×V)} (e:H a=some (.ins C dx fs)) (cl:Cls K C) (ha:Jy K (.ref C) "__class__" = some (some (.builtin "object.__class__")))
   (hn:PySem.W.specialIn K (.builtin "object.__class__") "__get__" = some (some (.builtin "getset_descriptor.__get__"))) (htk:PySem.W.takesIn K (.builtin "object.__class__")=some true)
   (hm:PySem.W.mroIn K C (.type "object")=some true):vG K H (.ref a) (.ref C)
end
structure Room (k:Nat) (A:JH):Prop where
 hd:A.handled=none
 dp:A.depth+3*k+5 < recursionLimit
 un:A.units+16*k+200 < cLine
theorem Room.mono {j k:Nat} {A:JH} (r:Room k A) (h:j<=k):Room j A:=⟨r.hd,by have:=r.dp; omega,by have:=r.un; omega⟩
theorem Room.deeper {k:Nat} {A:JH} (r:Room (k+1) A) (env:Env):Room k (A.deeper env) :=
 ⟨r.hd,by have:=r.dp; show A.depth+1+3*k+5 < _; omega,by have:=r.un; show A.units+3+16*k+200 < _; omega⟩
theorem za {A:JH} {C:IS} {us:List IE} {kw:List (Str×IE)}:(A.under (.builtin "type.__call__" ⟨.ref C::us,kw⟩)).depth=A.depth+1:=by
 first | rfl | simp [Around.under,Code.weight,Code.isCreation,Code.isGuard,Code.isCaller,Code.frames,Code.isFrame,guardIds]
theorem y9 {A:JH} {C:IS} {us:List IE} {kw:List (Str×IE)}:(A.under (.builtin "type.__call__" ⟨.ref C::us,kw⟩)).units=A.units+1:=by
 first | rfl | simp [Around.under,Code.cUnits,Code.frames,Code.isFrame]
theorem Room.make {k:Nat} {A:JH} (r:Room (k+1) A) (C:IS) (us:List IE) (kw:List (Str×IE)):Room k (A.under (.builtin "type.__call__" ⟨.ref C::us,kw⟩)) :=
 ⟨r.hd,by have:=r.dp; rw [za]; omega,by have:=r.un; rw [y9]; omega⟩
theorem Room.depth {k:Nat} {A:JH} (r:Room k A):A.depth < recursionLimit:=by have:=r.dp; omega
theorem Room.units {k:Nat} {A:JH} (r:Room k A):A.units+64 < cLine:=by have:=r.un; omega
noncomputable def Fj:TA:=λ _ H Q=>Q [] H
noncomputable def GH (ta:TE) (tr:TA):TA:=λ σ H Q=>ta σ H λ x H1=>tr σ H1 λ xs H2=>Q (x::xs) H2
section
variable {X:Cx} {e:Expr} {es:List Expr} {te:TE} {t:TA} {pos:Pos}
theorem BQ:PA X [] Fj:=λ _ _ _ _ H Q I h=>Calls.spliced_nil ⟨[],H,I,.nil,h⟩
theorem zU (ha:PE X e te) (hr:PA X es t) (hs:II (e::es) X.env=(false,eval e X.env)::II es X.env:=by rfl):PA X (e::es) (GH te t):=by
 intro pos pins s σ H Q I h;rw [hs];show Jp _ _ (spliced ((false,eval e X.env)::backTo pos (II es X.env))) _ _ s;refine Calls.spliced_cons (thn (ha pins s σ H _ I h) λ u s1 ⟨x,H1,I1,r1,q1⟩=>?_);exact thn (hr pos pins s1 σ H1 _ I1 q1) λ us s2 ⟨xs,H2,I2,r2,q2⟩=>⟨x::xs,H2,I2,.cons r1 r2,q2⟩
noncomputable def HF (t:TA):TE:=λ σ H Q=>t σ H λ xs H1=>xs.length<=IB/\∀ p,H1 p=none->Q (.ref p) (upd H1 p (.tup xs))
noncomputable def HJ (t:TA):TE:=λ σ H Q=>t σ H λ xs H1=>xs.length<=IB/\∀ p,H1 p=none->Q (.ref p) (upd H1 p (.lst xs))
theorem BD {x1} (h:PA X es t):PE X (.Tuple es x1 pos) (HF t):=by
 intro pins s σ H Q I hq;refine wpAny_Tuple_spliced (thn (h pos pins s σ H _ I hq) λ us s1 ⟨xs,H1,I1,r,z,q⟩=>⟨by rw [<- r.length]; exact z,?_⟩);have hf:H1 s1.heap.objs.size=none:=I1.hok.fresh (IF _);refine ⟨.ref s1.heap.objs.size,upd H1 s1.heap.objs.size (.tup xs),I1.laid (t':=s1.toks) (λ b u e=>IK _ e) (IF _) ?_,rfl,q _ hf⟩;exact ⟨z,us,r,⟨_,Jf _ rfl,rfl,_,rfl⟩⟩
theorem BI (h:PA X es t):PE X (.List es pos) (HJ t):=by
 intro pins s σ H Q I hq;refine wpAny_List_spliced (thn (h pos pins s σ H _ I hq) λ us s1 ⟨xs,H1,I1,r,z,q⟩=>⟨by rw [<- r.length]; exact z,?_⟩);have hf:H1 s1.heap.objs.size=none:=I1.hok.fresh (IF _);refine ⟨.ref s1.heap.objs.size,upd H1 s1.heap.objs.size (.lst xs),I1.laid (t':=s1.toks) (λ b u e=>IK _ e) (IF _) ?_,rfl,q _ hf⟩;exact ⟨z,us,0,r,Jf _ rfl⟩
end
noncomputable abbrev Sp:=List V->Hp->VK->XK->Prop
noncomputable abbrev CXT:=List Env->Hp->IG->XK->IE->IG->Prop
structure Env0 (P:Jg) (w:World) (K:Iv) (mg:Str->Option IE) (base:Heap) (A:JH) (outer:List Env) (s:IG) (H:Hp):Prop where
 frames:A.frames=some outer
 mod:Mod K mg base
 bs:∀ b o,base.get? b=some o->s.heap.get? b=some o/\H b=none
 bsz:base.objs.size<=s.heap.objs.size
 funs:s.heap.FunFrames base outer
 frf:∀ b∈frs outer,H b=none
 hok:HOk P w H s.heap
 bare:AllBare s.gens
noncomputable def CE (outer:List Env) (P:Jg) (w:World) (H:Hp) (s:IG) (Q:VK) (u:IE) (s':IG):Prop :=
 ∃ v H',s'.os=s.os/\AllBare s'.gens/\Un (frs outer) [] H H' s.heap s'.heap/\HOk P w H' s'.heap/\RelV v u/\Q v H'
noncomputable def CR (CX:CXT) (outer:List Env) (P:Jg) (w:World) (H:Hp) (s:IG) (Q:VK) (E:XK) (r:Result) (s':IG):Prop :=
 match r with
 | .ok (.ret u)=>CE outer P w H s Q u s'
 | .ok _=>False
 | .error e=>CX outer H s E e s'
structure FnOk (P:Jg) (w:World) (K:Iv) (mg:Str->Option IE) (base:Heap) (CX:CXT) (k:Nat) (f:IS) (fd:Jx) (ps:List Str) (sp:Sp):Prop where
 len:∀ vs H Q E,sp vs H Q E->vs.length=ps.length
 run:∀ (A:JH) (outer:List Env) (s:IG) (H:Hp) (args:Args) (us:List IE) (vs:List V) (Q:VK) (E:XK),Room k A->Env0 P w K mg base A outer s H->BindsTo s fd args (ps.zip us)->Vals vs us->sp vs H Q E ->
  codeAny (Jt P w) A (.call (.ref f) args) (CR CX outer P w H s Q E) s
theorem FnOk.mono {P:Jg} {w:World} {K:Iv} {mg:Str->Option IE} {base:Heap} {CX:CXT} {j k:Nat} {f:IS} {fd:Jx} {ps:List Str} {sp:Sp} (F:FnOk P w K mg base CX j f fd ps sp) (h:j<=k) :
  FnOk P w K mg base CX k f fd ps sp:=⟨F.len,λ A outer s H args us vs Q E hr=>F.run A outer s H args us vs Q E (hr.mono h)⟩
theorem FnOk.imp {P:Jg} {w:World} {K:Iv} {mg:Str->Option IE} {base:Heap} {CX:CXT} {k:Nat} {f:IS} {fd:Jx} {ps:List Str} {sp sp':Sp} (F:FnOk P w K mg base CX k f fd ps sp)
  (h:∀ vs H Q E,sp' vs H Q E->sp vs H Q E):FnOk P w K mg base CX k f fd ps sp' :=
 ⟨λ vs H Q E q=>F.len vs H Q E (h _ _ _ _ q),λ A outer s H args us vs Q E hr he hb hv hs=>F.run A outer s H args us vs Q E hr he hb hv (h _ _ _ _ hs)⟩
theorem Env0.make {P:Jg} {w:World} {K:Iv} {mg:Str->Option IE} {base:Heap} {A:JH} {outer:List Env} {s:IG} {H:Hp} (e:Env0 P w K mg base A outer s H) (C:IS) (us:List IE) (kw:List (Str×IE)) :
  Env0 P w K mg base (A.under (.builtin "type.__call__" ⟨.ref C::us,kw⟩)) outer s H:=⟨by first | exact e.frames | (simpa [Around.under,Code.envs,Code.isFrame,pushEnvs] using e.frames),e.mod,e.bs,e.bsz,e.funs,e.frf,e.hok,e.bare⟩
section
variable {X:Cx} {pins:List (IS×Obj)} {σ:St} {H:Hp} {s s':IG}
theorem Inv.env0 (I:Inv X pins σ H s):Env0 X.prog X.w X.K X.mg X.base X.A X.stack s H :=
 ⟨I.ok.frames,I.ok.mod,I.bs,Jd I.ok.bsz I.sz,I.stack,I.stkFree,I.hok,I.bare⟩
theorem Inv.after {Q:VK} {u:IE} (I:Inv X pins σ H s) (h:CE X.stack X.prog X.w H s Q u s'):EP X pins σ Q u s':=by
 obtain ⟨v,H',os,bare,un,hok,r,q⟩:=h;obtain ⟨hh,g,d,t,os'⟩:=s';obtain rfl:os'=s.os:=os;exact ⟨v,H',I.call (h':=hh) (g':=g) (d':=d) (t':=t) (ch:=[]) un hok bare (λ b z=>absurd z (by simp)),r,q⟩
end
noncomputable def GI (sp:Sp) (dvs:List V) (E:XK) (t:TA):TE:=λ σ H Q=>t σ H λ vs H1=>sp (vs++dvs) H1 Q E
noncomputable def Bk (C:IS) (m:Str) (sp:Sp) (dvs:List V) (E:XK) (ta:TE) (t:TA):TE:=λ σ H Q=>ta σ H λ x H1=>∃ a dx fs,x=.ref a/\H1 a=some (.ins C dx fs)/\fs.lookup m=none /\
 t σ H1 λ vs H2=>sp (x::(vs++dvs)) H2 Q E
noncomputable def EI (C:IS) (sp:Sp) (dvs:List V) (E:XK) (t:TA):TE:=λ σ H Q=>t σ H λ vs H1=>∀ x dx,H1 x=none->H1 dx=none->dx≠x ->
 sp (.ref x::(vs++dvs)) (upd (upd H1 dx (.own x)) x (.ins C dx [])) (λ v H2=>v=.non/\Q (.ref x) H2) E
noncomputable def Binds (K:Iv) (fd:Jx) (ps:List Str) (ds:List IE):Prop :=
 ∀ (s:IG) (us:List IE),K.In s.heap->(us++ds).length=ps.length->BindsTo s fd ⟨us,[]⟩ (ps.zip (us++ds))
theorem Binds.all {K:Iv} {fd:Jx} {ps:List Str} (h:∀ us:List IE,us.length=ps.length->bindArgs fd ⟨us,[]⟩=pure (ps.zip us)):Binds K fd ps []:=λ s us _ hl=>by
 rw [JB] at hl ⊢;exact .of_eq (h us hl)
noncomputable def Passes (CX:CXT) (X:Cx) (E:XK):Prop:=∀ (pins:List (IS×Obj)) (σ:St) (H:Hp) (s:IG) (e:IE) (s':IG),Inv X pins σ H s->CX X.stack H s E e s'->X.xe e s'
section
variable {X:Cx} {CX:CXT} {k:Nat} {f C:IS} {fd:Jx} {ps:List Str} {sp:Sp} {dvs:List V} {ds:List IE} {E:XK} {x m:Str} {p pos apos:Pos} {e o:Expr} {es:List Expr} {ta:TE} {t:TA}
theorem yO {pins:List (IS×Obj)} {σ:St} {H:Hp} {s:IG} {Q:VK} {us:List IE} {vs:List V} (F:FnOk X.prog X.w X.K X.mg X.base CX k f fd ps sp) (hr:Room k X.A) (hb:Binds X.K fd ps ds) (hd:Vals dvs ds) (hx:Passes CX X E)
  (I:Inv X pins σ H s) (r:Vals vs us) (h:sp (vs++dvs) H Q E):Jp (Jt X.prog X.w) X.A (call (.ref f) us) (EP X pins σ Q) X.xe s:=by
 have r2:Vals (vs++dvs) (us++ds):=r.append hd;have hl:(us++ds).length=ps.length:=by rw [<- r2.length]; exact F.len _ _ _ _ h
 refine wpAny_call (codeAny_mono (F.run X.A X.stack s H ⟨us,[]⟩ (us++ds) (vs++dvs) Q E hr I.env0 (hb s us I.kIn hl) r2 h) λ r s' hq=>?_);cases r with
 | error e=>exact hx pins σ H s e s' I hq
 | ok fl =>
  cases fl with
  | ret u=>exact I.after hq
  | next=>exact False.elim hq
  | brk=>exact False.elim hq
  | cont=>exact False.elim hq
theorem wN (F:FnOk X.prog X.w X.K X.mg X.base CX k f fd ps sp) (hr:Room k X.A) (hg:Gl X x) (hm:X.mg x=some (.ref f)) (hk:JU X.K (.ref f)=true) (hb:Binds X.K fd ps ds) (hd:Vals dvs ds) (hx:Passes CX X E)
  (ha:PA X (e::es) t) (hdb:(x==("__debug__" : Str))=false:=by decide) (he:II (e::es) X.env=(false,eval e X.env)::II es X.env:=by rfl) (hpl:(backTo pos (II es X.env)).any (·.1)=false:=by rfl) :
  PE X (.Call (.Name x p) (e::es) [] pos) (GI sp dvs E t):=by
 intro pins s σ H Q I h;refine wpAny_Call_Name_kw (uq I hg hm ?_ hdb);refine KF (h₀:=X.base) I.ok.mod.kin hk (thn (ha pos pins s σ H _ I h) λ us s1 ⟨vs,H1,I1,r,q⟩=>⟨I1.kIn,?_⟩) he hpl;exact yO F hr hb hd hx I1 r q
theorem Dx {pl:Sem Bool} (he:PE X o ta) (c:Cls X.K C) (hm:Meth X.K C m f) (F:FnOk X.prog X.w X.K X.mg X.base CX k f fd ps sp) (hr:Room k X.A) (hb:Binds X.K fd ps ds) (hd:Vals dvs ds) (hx:Passes CX X E) (ha:PA X (e::es) t)
  (hst:II (e::es) X.env=(false,eval e X.env)::II es X.env:=by rfl) (hpl:(backTo pos (II es X.env)).any (·.1)=false:=by rfl)
  (ht:eval (.Call (.Attribute o m apos) (e::es) [] pos) X.env=(do
   let ov <- eval o X.env
   standAt apos.atName
   let (f,first) <- holding [ov] (getMethod ov m pl)
   callWith pos f first (backTo pos (II (e::es) X.env)) (backToKw pos (keywordEach [] X.env))):=by rfl) :
  PE X (.Call (.Attribute o m apos) (e::es) [] pos) (Bk C m sp dvs E ta t):=by
 intro pins s σ H Q I h;refine PySem.W.methodCall_KW (pl:=pl) (thn (he pins s σ H _ I h) λ u s1 ⟨x,H1,I1,rx,a,dx,fs,ex,ea,l,q⟩=>?_) ht;subst ex;obtain rfl:u=Value.ref a:=rx;refine vh I1 ea c hm l ?_;refine KF (first:=[.ref a]) (h₀:=X.base) I.ok.mod.kin hm.kp (thn (ha pos pins s1 σ H1 _ I1 q) λ us s2 ⟨vs,H2,I2,r,q2⟩=>⟨I2.kIn,?_⟩) hst hpl;exact yO (us:=.ref a::us) (vs:=.ref a::vs) F hr hb hd hx I2 (.cons rfl r) q2
theorem BG {pl:Sem Bool} (he:PE X o ta) (c:Cls X.K C) (hm:Meth X.K C m f) (F:FnOk X.prog X.w X.K X.mg X.base CX k f fd ps sp) (hr:Room k X.A) (hb:Binds X.K fd ps ds) (hd:Vals dvs ds) (hx:Passes CX X E)
  (ht:eval (.Call (.Attribute o m apos) [] [] pos) X.env=(do
   let ov <- eval o X.env
   standAt apos.atName
   let (f,first) <- holding [ov] (getMethod ov m pl)
   callWith pos f first (backTo pos (II [] X.env)) (backToKw pos (keywordEach [] X.env))):=by rfl) :
  PE X (.Call (.Attribute o m apos) [] [] pos) (Bk C m sp dvs E ta Fj):=by
 intro pins s σ H Q I h;refine PySem.W.methodCall_KW (pl:=pl) (thn (he pins s σ H _ I h) λ u s1 ⟨x,H1,I1,rx,a,dx,fs,ex,ea,l,q⟩=>?_) ht;subst ex;obtain rfl:u=Value.ref a:=rx;refine vh I1 ea c hm l ?_;exact PySem.W.callWith_K0 (first:=[.ref a]) I1.kIn hm.kp (yO (us:=[.ref a]) (vs:=[.ref a]) F hr hb hd hx I1 (.cons rfl .nil) q)
structure Mk (K:Iv) (C f:IS):Prop where
 makes:PySem.W.makesIn K C=true
 init:Jy K (.ref C) "__init__" = some (some (.ref f))
 fn:PySem.W.isFn K (.ref f)=true
 kp:JU K (.ref C)=true
theorem xN {pins:List (IS×Obj)} {σ:St} {H:Hp} {s:IG} {Q:VK} {us:List IE} {vs:List V} (M:Mk X.K C f) (F:FnOk X.prog X.w X.K X.mg X.base CX k f fd ps sp) (hr:Room (k+1) X.A) (hb:Binds X.K fd ps ds) (hd:Vals dvs ds)
  (hx:Passes CX X E) (I:Inv X pins σ H s) (r:Vals vs us)
  (h:∀ x dx,H x=none->H dx=none->dx≠x->sp (.ref x::(vs++dvs)) (upd (upd H dx (.own x)) x (.ins C dx [])) (λ v H2=>v=.non/\Q (.ref x) H2) E) :
  Jp (Jt X.prog X.w) X.A (call (.ref C) us) (EP X pins σ Q) X.xe s:=by
 have hq:=h (s.heap.objs.size+1) s.heap.objs.size (I.hok.fresh (Nat.le_succ _)) (I.hok.fresh (IF _)) (Je (Kc _));have I2:=Inv.made (C:=C) I;have r2:Vals (V.ref (s.heap.objs.size+1)::(vs++dvs)) (Value.ref (s.heap.objs.size+1)::(us++ds)):=.cons rfl (r.append hd);have hl:(Value.ref (s.heap.objs.size+1)::us++ds).length=ps.length:=by
  have e:=r2.length;rw [F.len _ _ _ _ hq] at e;exact e.symm
 refine wpAny_call (BZ (f:=f) I.kIn M.makes M.init (beq_iff_eq.mp M.fn) (codeAny_mono (F.run _ X.stack _ _ ⟨Value.ref (s.heap.objs.size+1)::us,[]⟩ (Value.ref (s.heap.objs.size+1)::(us++ds)) _ _ E (hr.make C us [])
  (I2.env0.make C us []) (hb _ (Value.ref (s.heap.objs.size+1)::us) I2.kIn hl) r2 hq) λ r s' hq'=>?_))
 cases r with
 | error e=>exact hx pins σ _ _ e s' I2 hq'
 | ok fl =>
  cases fl with
  | ret u =>
   obtain ⟨v,H',I3,rv,ev,q3⟩:=I2.after hq';subst ev;exact ⟨rv,⟨V.ref (s.heap.objs.size+1),H',I3,rfl,q3⟩⟩
  | next=>exact False.elim hq'
  | brk=>exact False.elim hq'
  | cont=>exact False.elim hq'
theorem Dy (M:Mk X.K C f) (F:FnOk X.prog X.w X.K X.mg X.base CX k f fd ps sp) (hr:Room (k+1) X.A) (hg:Gl X x) (hm:X.mg x=some (.ref C)) (hb:Binds X.K fd ps ds) (hd:Vals dvs ds) (hx:Passes CX X E)
  (ha:PA X (e::es) t) (hdb:(x==("__debug__" : Str))=false:=by decide) (he:II (e::es) X.env=(false,eval e X.env)::II es X.env:=by rfl) (hpl:(backTo pos (II es X.env)).any (·.1)=false:=by rfl) :
  PE X (.Call (.Name x p) (e::es) [] pos) (EI C sp dvs E t):=by
 intro pins s σ H Q I h;refine wpAny_Call_Name_kw (uq I hg hm ?_ hdb);refine KF (h₀:=X.base) I.ok.mod.kin M.kp (thn (ha pos pins s σ H _ I h) λ us s1 ⟨vs,H1,I1,r,q⟩=>⟨I1.kIn,?_⟩) he hpl;exact xN M F hr hb hd hx I1 r q
theorem BH (M:Mk X.K C f) (F:FnOk X.prog X.w X.K X.mg X.base CX k f fd ps sp) (hr:Room (k+1) X.A) (hg:Gl X x) (hm:X.mg x=some (.ref C)) (hb:Binds X.K fd ps ds) (hd:Vals dvs ds) (hx:Passes CX X E)
  (hdb:(x==("__debug__" : Str))=false:=by decide):PE X (.Call (.Name x p) [] [] pos) (EI C sp dvs E Fj):=by
 intro pins s σ H Q I h;refine wpAny_Call_Name_kw (uq I hg hm ?_ hdb);exact PySem.W.callWith_K0 I.kIn M.kp (xN (us:=[]) M F hr hb hd hx I .nil h)
end
section
variable {X:Cx} {CX:CXT} {k:Nat} {f C:IS} {fd:Jx} {ps ks:List Str} {sp:Sp} {E:XK} {x m:Str} {p pos apos kpos:Pos} {e o:Expr} {es:List Expr} {kws:List Keyword} {te ta:TE} {t tk:TA} {nm:Option Str}
structure KBinds (K:Iv) (fd:Jx) (ps ks:List Str) (g:List IE->List IE->List IE) (gV:List V->List V->List V):Prop where
 to:∀ (s:IG) (us ws:List IE),K.In s.heap->(g us ws).length=ps.length->BindsTo s fd ⟨us,ks.zip ws⟩ (ps.zip (g us ws))
 rel:∀ {vs:List V} {us:List IE} {zs:List V} {ws:List IE},Vals vs us->Vals zs ws->Vals (gV vs zs) (g us ws)
variable {g:List IE->List IE->List IE} {gV:List V->List V->List V}
end
structure aI (N P:List Str) (sc:Scope):Prop where
 kind:sc.kind=.function
 co:sc.isCoroutine=false
 gen:sc.isGenerator=false
 nd:N.Nodup
 pre:N.take P.length=P
 par:∀ x∈P,sc.names.lookup x=some .local\/sc.names.lookup x=some .cell
 nofree:∀ y∈sc.names,y.2≠.free
theorem wt {kindOf:Str->Option NameKind} {x:Str}:∀ {binds:List (Str×IE)} {m:Str->Option IE},(∀ v,(x,v)∉binds)->bindL kindOf binds m x=m x
 | [],_,_=>rfl
 | (n,v)::r,m,h=>by
  unfold bindL;rw [wt λ w hw=>h w (IQ _ hw)]
  split
  ·have:x≠n:=by rintro rfl; exact h v IW
   simp [this]
  ·rfl
theorem wv {kindOf:Str->Option NameKind} {x:Str}:∀ {binds:List (Str×IE)} {m:Str->Option IE},(∀ v,(x,v)∉binds)->bindC kindOf binds m x=m x
 | [],_,_=>rfl
 | (n,v)::r,m,h=>by
  unfold bindC;rw [wv λ w hw=>h w (IQ _ hw)]
  split
  ·rfl
  ·have:x≠n:=by rintro rfl; exact h v IW
   simp [this]
theorem wu {kindOf:Str->Option NameKind} {x:Str} {v:IE}:∀ {P:List Str} {vs:List IE} {i:Nat} {m:Str->Option IE},P.Nodup->P[i]?=some x->vs[i]?=some v->kindOf x=some .local ->
  bindL kindOf (P.zip vs) m x=some v
 | [],_,_,_,_,h,_,_=>by simp at h
 | _::_,[],_,_,_,_,h,_=>by simp at h
 | p::P,w::vs,0,m,nd,h1,h2,hk=>by
  simp at h1 h2; subst h1; subst h2;show bindL kindOf ((p,w)::P.zip vs) m p=_;unfold bindL;rw [wt λ v hv=>(Ku.mp nd).1 (List.of_mem_zip hv).1,if_pos hk]
  simp
 | p::P,w::vs,i+1,m,nd,h1,h2,hk=>by
  show bindL kindOf ((p,w)::P.zip vs) m x=_;unfold bindL;exact wu (i:=i) (Ku.mp nd).2 (by simpa using h1) (by simpa using h2) hk
theorem ww {kindOf:Str->Option NameKind} {x:Str} {v:IE}:∀ {P:List Str} {vs:List IE} {i:Nat} {m:Str->Option IE},P.Nodup->P[i]?=some x->vs[i]?=some v->kindOf x≠some .local ->
  bindC kindOf (P.zip vs) m x=some v
 | [],_,_,_,_,h,_,_=>by simp at h
 | _::_,[],_,_,_,_,h,_=>by simp at h
 | p::P,w::vs,0,m,nd,h1,h2,hk=>by
  simp at h1 h2; subst h1; subst h2;show bindC kindOf ((p,w)::P.zip vs) m p=_;unfold bindC;rw [wv λ v hv=>(Ku.mp nd).1 (List.of_mem_zip hv).1,if_neg hk]
  simp
 | p::P,w::vs,i+1,m,nd,h1,h2,hk=>by
  show bindC kindOf ((p,w)::P.zip vs) m x=_;unfold bindC;exact ww (i:=i) (Ku.mp nd).2 (by simpa using h1) (by simpa using h2) hk
noncomputable def start (N:List Str) (vs:List V):St:=vs.map some++JK (N.length - vs.length) none
noncomputable def yw (CX:CXT) (P:Jg) (w:World) (K:Iv) (mg:Str->Option IE) (base:Heap) (N:List Str) (qual:Str) (scope:Scope) (f:IS) (cd:IE) (A:JH) (outer:List Env) (s:IG) (H:Hp) (E:XK):Cx where
 prog:=P
 w:=w
 K:=K
 mg:=mg
 base:=base
 A:=A.deeper (envOfC qual scope s.heap.objs.size f cd)
 N:=N
 s₀:=s
 H₀:=H
 env:=envOfC qual scope s.heap.objs.size f cd
 outer:=outer
 stack:=envOfC qual scope s.heap.objs.size f cd::outer
 ex:=[]
 calm:=true
 fn:=λ _=>true
 pn:=[]
 xe:=λ e s'=>Jp (Jt P w) (A.deeper (envOfC qual scope s.heap.objs.size f cd)) (leaving (envOfC qual scope s.heap.objs.size f cd) e) (λ _ s''=>CX outer H s E e s'') (λ e' s''=>CX outer H s E e' s'') s'
theorem yB {sc:Scope} {n:Nat} {x:Str} (h:sc.names.lookup x=some .cell):∃ c,(cellsFrom n sc.names []).lookup x=some c:=by
 have q:=PySem.W.cellsFrom_some sc.names n [] (.inl h);exact Option.isSome_iff_exists.mp q
theorem AU {CX:CXT} {P:Jg} {w:World} {K:Iv} {mg:Str->Option IE} {base:Heap} {N ps:List Str} {qual:Str} {scope:Scope} {f:IS} {cd:IE} {A:JH} {outer:List Env} {s s1:IG} {H:Hp} {E:XK} {us:List IE} {vs:List V}
  (S:aI N ps scope) (hd:A.handled=none) (e0:Env0 P w K mg base A outer s H) (hl:vs.length=ps.length) (r:Vals vs us)
  (x:InCallC s s.heap.objs.size (bindL (envOfC qual scope s.heap.objs.size f cd).kindOf (ps.zip us) λ _=>none) (cellsFrom (s.heap.objs.size+1) scope.names []) (bindC (envOfC qual scope s.heap.objs.size f cd).kindOf (ps.zip us) λ _=>none) s1) :
  Inv (yw CX P w K mg base N qual scope f cd A outer s H E) [] (start N vs) H s1:=by
 have hpl:ps.length<=N.length:=by have:=congrArg List.length S.pre; rw [List.length_take] at this; omega
 obtain ⟨h1,tk,rfl,hk⟩:=x.done;have noA:∀ b:IS,b∉(yw CX P w K mg base N qual scope f cd A outer s H E).ex:=λ b z=>absurd (show b∈([]:List IS) from z) (by simp);refine ⟨⟨e0.mod,S.kind,rfl,rfl,IF _,λ y z c h1 h2=>?_,λ y hy=>?_,λ y c _ h=>?_,λ _=>hd,Around.frames_deeper e0.frames,.inr ⟨rfl,rfl⟩,λ b z=>absurd z (noA b),e0.bs,e0.bsz,λ b _ _=>noA b,λ b z=>absurd z (noA b),e0.funs,e0.frf⟩,rfl,e0.bare,Un.kept hk,⟨_,x.toInCall.ns,λ i y v h1 h2 h3=>?_⟩,λ y c h=>⟨_,x.cell y c h⟩,e0.hok.fresh (IF _),λ y c h=>?_,λ p hp=>absurd (show p∈([]:List (IS×Obj)) from hp) (by simp),e0.hok.kept hk,?_⟩
 ·exact name_of_addr x.apart (PySem.mem_of_lookup h1) (PySem.mem_of_lookup h2)
 ·have hy:scope.names.lookup y=some .cell\/scope.names.lookup y=some .free:=hy;rcases hy with hy | hy
  ·exact yB hy
  ·exact absurd rfl (S.nofree _ (PySem.mem_of_lookup hy))
 ·exact Nat.le_of_lt (x.above y c (PySem.mem_of_lookup h))
 ·have hi:i < vs.length:=by
   unfold start at h2;by_cases hi:i < vs.length
   ·exact hi
   ·rw [IJ (by simpa using hi)] at h2;rw [JV] at h2;split at h2 <;> cases h2
  have ha:vs[i]?=some v:=by
   unfold start at h2;rw [IC (by simpa using hi),IP] at h2;cases e:vs[i]? with
   | none=>rw [e] at h2; cases h2
   | some a=>rw [e] at h2; cases h2; rfl
  obtain ⟨u,hu,rv⟩:=r.get ha;have hp:ps[i]?=some y:=by
   rw [<- S.pre,List.getElem?_take_of_lt (by omega)]; exact h1
  have ndP:ps.Nodup:=by rw [<- S.pre]; exact S.nd.sublist (List.take_sublist _ _)
  refine ⟨u,rv,?_⟩;rcases S.par y (KB hp) with k | k
  ·exact .inl ⟨k,wu ndP hp hu k⟩
  ·obtain ⟨c,e⟩:=yB (n:=s.heap.objs.size+1) k;refine .inr ⟨.inl k,c,e,?_⟩;have q:=x.cell y c e;rw [ww ndP hp hu (by show scope.names.lookup y≠_; rw [k]; decide)] at q;exact q
 ·exact e0.hok.fresh (Nat.le_of_lt (x.above y c (PySem.mem_of_lookup h)))
 ·unfold start;show _=N.length;rw [IA,Iy,J1];omega
theorem Hj {CX:CXT} {P:Jg} {w:World} {K:Iv} {mg:Str->Option IE} {base:Heap} {k:Nat} {f:IS} {name qual:Str} {params:Arguments} {body:List Stmt} {scope:Scope} {dV kV doc pm cdv ct oc:IE} {an od:Option IS}
  {osl:Array (Option IE)} {N ps:List Str} {sp:Sp} (lk:K.lookup f=some ⟨oc,od,.func (Ke name qual params body scope dV kV doc pm an cdv ct),osl⟩) (hcd:PySem.W.codeIn K cdv qual=true) (S:aI N ps scope)
  (len:∀ vs H Q E,sp vs H Q E->vs.length=ps.length)
  (hbody:∀ (A:JH) (outer:List Env) (s:IG) (H:Hp) (vs:List V) (Q:VK) (E:XK),Room k (A.deeper (envOfC qual scope s.heap.objs.size f cdv))->sp vs H Q E ->
   ∃ t,PSs (yw CX P w K mg base N qual scope f cdv A outer s H E) body t/\t { nx:=λ _ H'=>Q .non H',rt:=Q } (start N vs) H) :
  FnOk P w K mg base CX (k+1) f (Ke name qual params body scope dV kV doc pm an cdv ct) ps sp:=by
 refine ⟨len,λ A outer s H args us vs Q E hr e0 hb r hsp=>?_⟩;have hl:=len _ _ _ _ hsp;have KX:K.In s.heap:=e0.mod.kin.keeps λ b o e=>(e0.bs b o e).1;have lim:s.heap.NoLimit:=e0.mod.nolimit.keeps λ b o e=>(e0.bs b o e).1;have hkind:∀ y∈ps.zip us,scope.names.lookup y.1=some .local\/(scope.names.lookup y.1=some .cell/\((cellsFrom (s.heap.objs.size+1) scope.names []).lookup y.1).isSome=true):=λ ⟨n,v⟩ hy=>by
  rcases S.par n (List.of_mem_zip hy).1 with q | q
  ·exact .inl q
  ·exact .inr ⟨q,PySem.W.cellsFrom_some _ _ _ (.inl q)⟩
 refine codeAny_call_function hr.depth (KX _ _ lk) rfl S.co S.gen rfl (PySem.W.codeRec_of KX hcd) (hb _ _ _ _ ?_);refine wpAny_newFunctionEnv_cells S.kind hkind λ env he s1 x=>?_;subst he;refine ⟨lim.keeps x.toInCall.keep,codeAny_func ?_⟩;obtain ⟨t,ht,hq⟩:=hbody A outer s H vs Q E (hr.deeper _) hsp;have I:Inv (yw CX P w K mg base N qual scope f cdv A outer s H E) [] (start N vs) H s1:=AU S hr.hd e0 hl r x;refine wpAny_mono (ht [] s1 (start N vs) H _ I hq) (λ fl s' hs=>?_) λ e s' hs=>hs;have fin:∀ {σ':St} {H':Hp} {v:V} {u:IE},Inv (yw CX P w K mg base N qual scope f cdv A outer s H E) [] σ' H' s'->RelV v u->Q v H'->CE outer P w H s Q u s' :=
  λ {σ' H' v u} J rv q=>⟨v,H',J.os,J.bare,J.base,J.hok,rv,q⟩
 cases fl with
 | ret u =>
  obtain ⟨v,σ',H',J,rv,q⟩:=hs;exact fin J rv q
 | next =>
  obtain ⟨σ',H',J,q⟩:=hs;exact fin (v:=V.non) (u:=Value.none) J rfl q
 | brk =>
  obtain ⟨_,_,_,q⟩:=hs;exact False.elim q
 | cont =>
  obtain ⟨_,_,_,q⟩:=hs;exact False.elim q
section
variable {X:Cx} {x:Str} {p pos:Pos} {e:Expr} {es:List Expr} {t:TA} {id T:String} {r:List V->Hp->VK->Prop}
noncomputable def tCB (r:List V->Hp->VK->Prop) (t:TA):TE:=λ σ H Q=>t σ H λ vs H1=>r vs H1 Q
theorem BO (hc:CallR X (.builtin id) r) (hg:Gl X x) (hm:X.mg x=none) (hv:bootBuiltins x=some (.builtin id)) (ha:PA X (e::es) t) (hn:x ≠ "__name__" := by decide) (hdb:(x==("__debug__" : Str))=false:=by decide)
  (he:II (e::es) X.env=(false,eval e X.env)::II es X.env:=by rfl) (hpl:(backTo pos (II es X.env)).any (·.1)=false:=by rfl):PE X (.Call (.Name x p) (e::es) [] pos) (tCB r t):=by
 intro pins s σ H Q I h;refine wpAny_Call_Name_kw (qT I hg hm hv ?_ hn hdb);exact PyProof.Rows.callWith_builtin1 (thn (ha pos pins s σ H _ I h) λ us s1 ⟨vs,H1,I1,r1,q1⟩=>hc pins s1 σ H1 vs us Q I1 r1 q1) he hpl
theorem AE (hc:CallR X (.type T) r) (hg:Gl X x) (hm:X.mg x=none) (hv:bootBuiltins x=some (.type T)) (ha:PA X (e::es) t) (hn:x ≠ "__name__" := by decide) (hdb:(x==("__debug__" : Str))=false:=by decide)
  (he:II (e::es) X.env=(false,eval e X.env)::II es X.env:=by rfl) (hpl:(backTo pos (II es X.env)).any (·.1)=false:=by rfl):PE X (.Call (.Name x p) (e::es) [] pos) (tCB r t):=by
 intro pins s σ H Q I h;refine wpAny_Call_Name_kw (qT I hg hm hv ?_ hn hdb);exact PyProof.Rows.callWith_type1 (thn (ha pos pins s σ H _ I h) λ us s1 ⟨vs,H1,I1,r1,q1⟩=>hc pins s1 σ H1 vs us Q I1 r1 q1) he hpl
end
end L2
namespace HT
open PySem PyProof.Rows
section
open PySem.SeqAt
open PySem.AutoSeq1 (wpAny_loadPart')
open PySem.MeetsSeq PySem.MeetsSeq2 PySem.MeetsSeq3
end
section
variable {prog:Jg} {w:World} {A:JH} {E:IE->IG->Prop} {s:IG}
theorem cat_tup {t b:IS} {vs ws:List IE} {Q:IE->IG->Prop} (ht:IsTup s.heap t vs.toArray) (hb:IsTup s.heap b ws.toArray) (hv:vs≠[])
  (h1:ws=[]->Q (.ref t) s) (h2:ws≠[]->Q (.ref s.heap.objs.size) { s with heap:=s.heap.push { cls:=.type "tuple", data:=.seq (vs++ws).toArray } })
  (hsz:vs.length+ws.length<=IB):Jp (Jt prog w) A (binaryOp .Add (.ref t) (.ref b)) Q E s:=by
 obtain ⟨⟨cls,dd,data,sl⟩,ho,hc,n,hd⟩:=id ht;obtain ⟨⟨cls2,dd2,data2,sl2⟩,ho2,hc2,n2,hd2⟩:=id hb;simp only at hc hd hc2 hd2;subst hc hd hc2 hd2;have e:vs.toArray++ws.toArray=(vs++ws).toArray:=by simp
 by_cases hw:ws=[]
 ·exact concat_meets ⟨_,ho,rfl⟩ ⟨_,ho2,rfl⟩ noFill_tuple_add seq_tuple_add PySem.F.slot_tuple_add PySem.F.entry_tuple_add (PySem.F.args_tuple_add_2 _ _)
   (tuple_addW1 t b vs.toArray ws.toArray n n2 dd dd2 sl sl2 (by simpa using hv) (by simp [hw])) ⟨ho,ho2,h1 hw⟩
 ·refine concat_meets ⟨_,ho,rfl⟩ ⟨_,ho2,rfl⟩ noFill_tuple_add seq_tuple_add PySem.F.slot_tuple_add PySem.F.entry_tuple_add (PySem.F.args_tuple_add_2 _ _)
   (tuple_addW2 t b vs.toArray ws.toArray n n2 dd dd2 sl sl2 (by simpa using hv) (by simpa using hw) (by rw [IL,IL]; exact hsz)) ⟨ho,ho2,?_⟩
  rw [e];exact h2 hw
noncomputable def sIx (n d:Nat):Option Int->Nat
 | none=>d
 | some v=>if v < 0 then (v+(n:Int)).toNat else min v.toNat n
theorem sIx_none (n d:Nat):sIx n d none=d:=rfl
theorem sIx_nat (n d k:Nat):sIx n d (some (k:Int))=min k n:=by
 show (if (k:Int) < 0 then ((k:Int)+(n:Int)).toNat else min (k:Int).toNat n)=min k n;rw [if_neg (by omega),Int.toNat_natCast]
theorem Fw (n d:Nat) (hd:d<=n) (o:Option Int):sIx n d o<=n:=by
 cases o with
 | none=>exact hd
 | some v =>
  show (if v < 0 then (v+(n:Int)).toNat else min v.toNat n)<=n;by_cases hv:v < 0
  ·rw [if_pos hv]; omega
  ·rw [if_neg hv]; exact Nat.min_le_right _ _
theorem Ai (v:Int) (n d:Nat):(if v < 0 then max (v+(n:Int)) 0 else min v (n:Int))=((sIx n d (some v):Nat):Int):=by
 show (if v < 0 then max (v+(n:Int)) 0 else min v (n:Int))=(((if v < 0 then (v+(n:Int)).toNat else min v.toNat n):Nat):Int);by_cases hv:v < 0
 ·simp only [if_pos hv]; omega
 ·simp only [if_neg hv]; omega
theorem zu (lo hi:Option Int) (n:Nat):Builtin.Slice.sliceAdjust lo hi 1 (n:Int)=(((sIx n 0 lo:Nat):Int),((sIx n n hi:Nat):Int)):=by
 have h1:¬ ((1:Int) < 0):=by omega
 unfold Builtin.Slice.sliceAdjust;simp only [h1,if_false];refine Prod.ext ?_ ?_
 ·cases lo with
  | none=>rfl
  | some v=>exact Ai v n 0
 ·cases hi with
  | none=>rfl
  | some v=>exact Ai v n n
theorem yV (i j:Nat):Builtin.Slice.slicePlaces (i:Int) (j:Int) 1=j - i:=by
 unfold Builtin.Slice.slicePlaces;have h1:(1:Int) > 0:=by omega
 simp only [h1,if_true,Int.ediv_one]
 split <;> omega
theorem uA {v:IE} {o:Option Int} {Q:Option Int->IG->Prop} (p:IsPart v o) (h:Q o s):Jp (Jt prog w) A (Builtin.Slice.slicePartIndex v) Q E s:=by
 cases p with
 | none=>exact slicePart_none h
 | int i t=>exact slicePart_int h
theorem sliceApplied_gen {sl:IS} {vl vu:IE} {lo hi:Option Int} {n:Nat} {Q:Int×Int×Nat->IG->Prop} (hs:s.heap.IsSliceOf sl vl vu .none) (pl:IsPart vl lo) (pu:IsPart vu hi)
  (h:Q (((sIx n 0 lo:Nat):Int),1,sIx n n hi - sIx n 0 lo) s):Jp (Jt prog w) A (Builtin.Slice.sliceApplied (.ref sl) (pure (n:Int))) Q E s:=by
 obtain ⟨os,hos,hcs,hds⟩:=id hs;unfold Builtin.Slice.sliceApplied Builtin.Slice.sliceFields;refine IR (IR (wpAny_field hos hds (x:=vl) rfl (IR (wpAny_field hos hds (x:=vu) rfl (IR (wpAny_field hos hds (x:=.none) rfl (Ja ?_)))))));refine IR (slicePart_none ?_);show Jp _ _ (if ((1:Int)==0)=true then _ else _) _ _ s;rw [if_neg (by decide)];refine IR (uA pl (IR (uA pu (IR (Ja ?_)))));show Jp _ _ (match Builtin.Slice.sliceAdjust lo hi 1 (n:Int) with | (lo,hi)=>pure (lo,(1:Int),Builtin.Slice.slicePlaces lo hi 1)) _ _ s;rw [zu lo hi n];show Jp _ _ (pure (((sIx n 0 lo:Nat):Int),(1:Int),Builtin.Slice.slicePlaces ((sIx n 0 lo:Nat):Int) ((sIx n n hi:Nat):Int) 1)) _ _ s;rw [yV];exact Ja h
theorem BB (xs:Array IE) (i k:Nat):((List.range k).filterMap λ (m:Nat)=>xs[((i:Int)+(m:Int)*1).toNat]?).toArray=((xs.toList.drop i).take k).toArray:=by
 have e:(λ (m:Nat)=>xs[((i:Int)+(m:Int)*1).toNat]?)=λ m=>xs[i+m]?:=by
  funext m
  have:((i:Int)+(m:Int)*1).toNat=i+m:=by omega
  rw [this]
 rw [e]
 have:=pick_run xs i k
 rw [List.filterMap_map] at this;have e2:((λ x=>xs[x]?)∘λ x=>i+x)=λ m=>xs[i+m]?:=rfl;rw [e2] at this;rw [this]
theorem getItem_tuple_cut {t sl:IS} {items:Array IE} {vl vu:IE} {lo hi:Option Int} {Q:IE->IG->Prop} (ht:IsTup s.heap t items) (hs:s.heap.IsSliceOf sl vl vu .none) (pl:IsPart vl lo) (pu:IsPart vu hi)
  (hw:¬ (sIx items.size 0 lo=0/\sIx items.size items.size hi=items.size))
  (h:Q (.ref s.heap.objs.size) { s with heap:=s.heap.push { cls:=.type "tuple", data:=.seq ((items.toList.drop (sIx items.size 0 lo)).take (sIx items.size items.size hi - sIx items.size 0 lo)).toArray } })
  (hsz:items.size<=IB):Jp (Jt prog w) A (getItem (.ref t) (.ref sl)) Q E s:=by
 have htake:sizeOk (.seq ((items.toList.drop (sIx items.size 0 lo)).take (sIx items.size items.size hi - sIx items.size 0 lo)).toArray):=by
  show ((items.toList.drop (sIx items.size 0 lo)).take (sIx items.size items.size hi - sIx items.size 0 lo)).toArray.size<=IB;rw [IL,List.length_take,Jv,Array.length_toList];omega
 have hj:sIx items.size items.size hi<=items.size:=Fw _ _ (IF _) hi;obtain ⟨os,hos,hcs,hds⟩:=id hs;have hTs:s.TypeIs (.ref sl) "slice" := ⟨os,hos,hcs⟩;unfold getItem
 try with_reducible refine wpAny_holding ?_
 first | refine IR (Ja ?_) | skip
 refine IR (wpAny_sequenceKey ht.typeIs (by decide) ?_);refine IR (wpAny_callSpecial?_slot (name:=Str.ofString "__getitem__") ht.typeIs PyProof.Rows.slot_tuple_getitem
  (wpAny_call_entry PyProof.Rows.slot_tuple_getitem ht.typeIs entry_tuple_getitem ?_ (args_tuple_getitem _ _)))
 show Jp _ _ (Builtin.Tuple.tupleItemsOf (.ref t) >>= _) _ _ s;refine IR (tupleItemsOf_ ht ?_);refine IR (wpAny_typeOf hTs ?_);rw [if_pos (by decide)];refine IR (sliceApplied_gen hs pl pu ?_);have hno:¬ ((((sIx items.size 0 lo:Nat):Int)==0&&(1:Int)==1&&(sIx items.size items.size hi - sIx items.size 0 lo)==items.size)=true):=by
  intro q;rw [JC,JC] at q;have q1:((sIx items.size 0 lo:Nat):Int)=0:=eq_of_beq q.1.1;have q2:sIx items.size items.size hi - sIx items.size 0 lo=items.size:=eq_of_beq q.2;exact hw ⟨by omega,by omega⟩
 show Jp _ _ (if (((sIx items.size 0 lo:Nat):Int)==0&&(1:Int)==1&&(sIx items.size items.size hi - sIx items.size 0 lo)==items.size)=true then _ else _) _ _ s;rw [if_neg hno,BB]
 first
  | exact IR (m:=Builtin.Tuple.tupleExact _) (wpAny_newObj_type (Ja ⟨_,rfl,Ja h⟩) htake)
  | exact IR (m:=Builtin.Tuple.tupleExact _) (wpAny_newObj_type (IR (Ja (Ja ⟨_,rfl,Ja h⟩))) htake)
  | exact IR (IR (m:=Builtin.Tuple.tupleExact _) (wpAny_newObj_type (Ja (Ja ⟨_,rfl,Ja h⟩)) htake))
  | exact IR (IR (m:=Builtin.Tuple.tupleExact _) (wpAny_newObj_type (Ja ⟨_,rfl,Ja h⟩) htake))
end
end HT
namespace L2
open PySem PySem.Spec PyProof.Rows
noncomputable abbrev TO:=St->Hp->(Option Int->Hp->Prop)->Prop
noncomputable def PO (X:Cx) (e:Option Expr) (t:TO):Prop :=
 ∀ (pins:List (IS×Obj)) (s:IG) (σ:St) (H:Hp) (Q:Option Int->Hp->Prop),Inv X pins σ H s->t σ H Q ->
  Jp (Jt X.prog X.w) X.A (evalPart e X.env) (λ u s'=>∃ o H',Inv X pins σ H' s'/\IsPart u o/\Q o H') X.xe s
noncomputable def C9:TO:=λ _ H Q=>Q none H
noncomputable def GC (t:TE):TO:=λ σ H Q=>t σ H λ x H1=>∃ i,x=.int i/\Q (some i) H1
theorem zg {ns:List Int}:∀ {us:List IE},Vals (ns.map V.int) us->IntsAre us ns:=by
 induction ns with
 | nil=>intro us r; rw [Kv] at r; cases r; exact .nil
 | cons n ns ih =>
  intro us r;rw [IN] at r;cases r with
  | cons r1 r2 =>
   obtain ⟨t,e⟩:=r1;subst e;exact .cons n t (ih r2)
section
variable {X:Cx} {e:Expr} {te:TE} {lo hi:Option Expr} {tl th:TO} {pos p2:Pos}
theorem Dw:PO X none C9:=by
 intro pins s σ H Q I h;rw [evalPart_none];exact Ja ⟨none,H,I,.none,h⟩
theorem Dv (h:PE X e te):PO X (some e) (GC te):=by
 intro pins s σ H Q I hw;rw [evalPart_some];refine thn (h pins s σ H _ I hw) λ u s1 ⟨x,H1,I1,r1,q1⟩=>?_;obtain ⟨i,rfl,q⟩:=q1;obtain ⟨t,rfl⟩:=r1;exact ⟨some i,H1,I1,.int i t,q⟩
noncomputable def SlR (X:Cx) (r:V->Option Int->Option Int->Hp->VK->Prop):Prop :=
 ∀ (pins:List (IS×Obj)) (s:IG) (σ:St) (H:Hp) (x:V) (v vl vu:IE) (lo hi:Option Int) (sl:IS) (Q:VK),Inv X pins σ H s->RelV x v->s.heap.IsSliceOf sl vl vu .none->IsPart vl lo->IsPart vu hi->r x lo hi H Q ->
  ∃ T id,typeLookup (.type T) "__getitem__" = pure (some (.builtin id))/\s.TypeIs v T/\Jp (Jt X.prog X.w) X.A (getItem v (.ref sl)) (EP X pins σ Q) X.xe s
theorem SlR.or {r r':V->Option Int->Option Int->Hp->VK->Prop} (h:SlR X r) (h':SlR X r'):SlR X (λ x lo hi H Q=>r x lo hi H Q\/r' x lo hi H Q):=by
 intro pins s σ H x v vl vu lo hi sl Q I rx hs pl pu q;rcases q with q | q
 ·exact h pins s σ H x v vl vu lo hi sl Q I rx hs pl pu q
 ·exact h' pins s σ H x v vl vu lo hi sl Q I rx hs pl pu q
noncomputable def tSl (r:V->Option Int->Option Int->Hp->VK->Prop) (te:TE) (tl th:TO):TE:=λ σ H Q=>te σ H λ x H1=>tl σ H1 λ l H2=>th σ H2 λ u H3=>r x l u H3 Q
theorem BE {r:V->Option Int->Option Int->Hp->VK->Prop} (hr:SlR X r) (he:PE X e te) (hl:PO X lo tl) (hu:PO X hi th):PE X (.Subscript e (.Slice lo hi none p2) pos) (tSl r te tl th):=by
 intro pins s σ H Q I h;refine Subscript_ (thn (he pins s σ H _ I h) λ v s1 ⟨x,H1,I1,r1,q1⟩=>?_);refine wpAny_Slice (thn (hl pins s1 σ H1 _ I1 q1) λ vl s2 ⟨l,H2,I2,pl,q2⟩=>thn (hu pins s2 σ H2 _ I2 q2) λ vu s3 ⟨u,H3,I3,pu,q3⟩=>?_);rw [evalPart_none];refine Ja ?_;have I4:Inv X pins σ H3 { s3 with heap:=s3.heap.push { cls:=.type "slice", data:=.fields #[vl,vu,.none] } }:=I3.kept (t':=s3.toks) λ b ob q=>IK _ q;obtain ⟨T,id,hT,ht,hg⟩:=hr pins { s3 with heap:=s3.heap.push { cls:=.type "slice", data:=.fields #[vl,vu,.none] } } σ H3 x v vl vu l u s3.heap.objs.size Q I4 r1 (Heap.IsSliceOf.new ..) pl pu q3;show Jp (Jt X.prog X.w) X.A (subscriptTail e (.Slice lo hi none p2) v (.ref s3.heap.objs.size)) (EP X pins σ Q) X.xe { s3 with heap:=s3.heap.push { cls:=.type "slice", data:=.fields #[vl,vu,.none] } };exact tail_any (ops:=[.ref s3.heap.objs.size,v]) ht hT hg (by with_unfolding_all rfl)
noncomputable def ub (xs:List V) (lo hi:Option Int):List V:=(xs.drop (HT.sIx xs.length 0 lo)).take (HT.sIx xs.length xs.length hi - HT.sIx xs.length 0 lo)
theorem tN (xs:List V) (lo hi:Option Int):(ub xs lo hi).length<=xs.length:=by
 unfold ub;rw [List.length_take,Jv];omega
noncomputable def GP (K:Iv):V->Option Int->Option Int->Hp->VK->Prop:=λ x lo hi H Q=>∃ a xs,x=.ref a/\SqT K H a xs /\
 ¬ (HT.sIx xs.length 0 lo=0/\HT.sIx xs.length xs.length hi=xs.length)/\∀ p,H p=none->Q (.ref p) (upd H p (.tup (ub xs lo hi)))
theorem sl_tup:SlR X (GP X.K):=by
 intro pins s σ H x v vl vu lo hi sl Q I rx hs pl pu h;obtain ⟨a,xs,rfl,hx,hw,q⟩:=h;cases rx;obtain ⟨its,r,ht,hz⟩:=I.tuple hx;have hlen:its.toArray.size=xs.length:=by rw [IL]; exact r.length.symm
 refine ⟨"tuple", _,PyProof.Rows.slot_tuple_getitem.lookup,ht.typeIs,?_⟩;refine HT.getItem_tuple_cut ht hs pl pu (by rw [hlen]; exact hw) ?_ (by rw [hlen]; exact hz);rw [hlen];refine ⟨.ref s.heap.objs.size,_,I.laid (t':=s.toks) (o:=.tup (ub xs lo hi)) (λ b ob q=>IK _ q) (IF _) ?_,rfl,q _ (I.hok.fresh (IF _))⟩;exact ⟨Jd (tN xs lo hi) hz,_,(r.drop (HT.sIx xs.length 0 lo)).take (HT.sIx xs.length xs.length hi - HT.sIx xs.length 0 lo),IsTup.new _ _⟩
theorem Vals.nil_iff {xs:List V} {us:List IE} (r:Vals xs us):us=[]↔xs=[]:=by
 cases r with
 | nil=>simp
 | cons _ _=>simp
end
noncomputable def ixN (n:Nat) (i:Int):Option Nat:=if 0<=i then (if i < n then some i.toNat else none) else if -(n:Int)<=i then some (i+n).toNat else none
noncomputable def atI {α:Type} (xs:List α) (i:Int):Option α:=(ixN xs.length i).bind λ j=>xs[j]?
theorem D9 {n:Nat} {i:Int} {j:Nat} (h:ixN n i=some j):seqIndex? i n=some j/\j < n/\-(n:Int)<=i/\i < n:=by
 unfold ixN at h;by_cases h0:0<=i
 ·rw [if_pos h0] at h;by_cases h1:i < n
  ·rw [if_pos h1] at h;have e:i.toNat=j:=Option.some.inj h;exact ⟨by rw [seqIndex_of h0 h1,e],by omega,by omega,h1⟩
  ·rw [if_neg h1] at h; cases h
 ·rw [if_neg h0] at h;by_cases h1:-(n:Int)<=i
  ·rw [if_pos h1] at h;have e:(i+n).toNat=j:=Option.some.inj h;exact ⟨by rw [seqIndex_neg (by omega) h1,e],by omega,h1,by omega⟩
  ·rw [if_neg h1] at h; cases h
theorem xr {α:Type} {xs:List α} {i:Int} {v:α} (h:atI xs i=some v):∃ j,seqIndex? i xs.length=some j/\xs[j]?=some v/\j < xs.length/\-(xs.length:Int)<=i/\i < xs.length:=by
 unfold atI at h;cases e:ixN xs.length i with
 | none=>rw [e] at h; cases h
 | some j =>
  rw [e] at h;obtain ⟨h1,h2,h3,h4⟩:=D9 e;exact ⟨j,h1,h,h2,h3,h4⟩
theorem uy {α:Type} {xs:List α} {j:Nat} {v:α} (h:xs[j]?=some v):atI xs (j:Int)=some v:=by
 have hj:j < xs.length:=(ID.mp h).1;have e:ixN xs.length (j:Int)=some j:=by
  unfold ixN;rw [if_pos (by omega),if_pos (by omega)]; simp
 unfold atI; rw [e]; exact h
noncomputable def qa (b:Expr):Prop:=∀ o i,subscripted b false o i=operate [o,i] (getItem o i)
noncomputable def IxR (X:Cx) (r:R2):Prop :=
 ∀ (value slice:Expr) (pins:List (IS×Obj)) (s:IG) (σ:St) (H:Hp) (x y:V) (v u:IE) (Q:VK),Inv X pins σ H s->RelV x v->RelV y u->r x y H Q ->
  subscripted slice false v u=operate [v,u] (getItem v u)->Jp (Jt X.prog X.w) X.A (subscriptTail value slice v u) (EP X pins σ Q) X.xe s
noncomputable def MtR (X:Cx) (id:String) (r:V->List V->Hp->VK->Prop):Prop :=
 ∀ (pins:List (IS×Obj)) (s:IG) (σ:St) (H:Hp) (x:V) (xs:List V) (v:IE) (us:List IE) (Q:VK),Inv X pins σ H s->RelV x v->Vals xs us->r x xs H Q ->
  Jp (Jt X.prog X.w) X.A (call (.builtin id) (v::us)) (EP X pins σ Q) X.xe s
section
variable {X:Cx} {a b:Expr} {ta tb:TE} {pos:Pos}
theorem IxR.or {r r':R2} (h:IxR X r) (h':IxR X r'):IxR X (λ x y H Q=>r x y H Q\/r' x y H Q):=by
 intro value slice pins s σ H x y v u Q I rx ry q hs;rcases q with q | q
 ·exact h value slice pins s σ H x y v u Q I rx ry q hs
 ·exact h' value slice pins s σ H x y v u Q I rx ry q hs
theorem BJ {r:R2} (hr:IxR X r) (ha:PE X a ta) (hb:PE X b tb) (hs:qa b):PE X (.Subscript a b pos) (tOp r ta tb):=by
 intro pins s σ H Q I h;exact Subscript_ (Ge ha hb I h λ v u s2 x y H2 I2 rx ry q=>hr a b pins s2 σ H2 x y v u Q I2 rx ry q (hs _ _))
noncomputable def GU (K:Iv):R2:=λ x y H Q=>∃ p xs i v,x=.ref p/\y=.int i/\SqL K H p xs/\atI xs i=some v/\Q v H
noncomputable def GS (K:Iv):R2:=λ x y H Q=>∃ p xs i v,x=.ref p/\y=.int i/\SqT K H p xs/\atI xs i=some v/\Q v H
noncomputable def GT:R2:=λ x y H Q=>∃ z i c,x=.str z/\y=.int i/\z.length<=IB/\atI z.cps.toList i=some c/\Q (.str ⟨#[c]⟩) H
theorem ix_list:IxR X (GU X.K):=by
 intro value slice pins s σ H x y v u Q I rx ry h hs;obtain ⟨p,xs,i,z,rfl,rfl,hq,he,q⟩:=h;cases rx;obtain ⟨t,rfl⟩:=ry;obtain ⟨its,r,pl,hz⟩:=I.list hq;obtain ⟨j,h1,h2,h3,h4,h5⟩:=xr he;obtain ⟨w,ew,rw'⟩:=r.get h2;have hl:=r.length;have hn:=sI;have fin:EP X pins σ Q w s:=⟨z,H,I,rw',q⟩;by_cases h0:0<=i
 ·have hj:i.toNat=j:=by
   rw [seqIndex_of h0 h5] at h1;exact Option.some.inj h1
  exact item_listR pl.isList h0 (by omega) (by rw [hj]; simpa using ew) fin hs
 ·have hj:(i+(its.toArray.size:Int)).toNat=j:=by
   rw [seqIndex_neg (by omega) h4] at h1;rw [IL,<- hl];exact Option.some.inj h1
  exact subscriptTail_builtinR (x:=w) pl.isList.typeIs slot_list_getitem.lookup
   (wpAny_getItem_list_neg (Q:=λ r s'=>r=w/\EP X pins σ Q r s') pl.isList (by omega) (by rw [IL] <;> omega) (by omega) (by rw [hj]; simpa using ew) ⟨rfl,fin⟩) hs
theorem ix_tup:IxR X (GS X.K):=by
 intro value slice pins s σ H x y v u Q I rx ry h hs;obtain ⟨p,xs,i,z,rfl,rfl,hq,he,q⟩:=h;cases rx;obtain ⟨t,rfl⟩:=ry;obtain ⟨its,r,pl,hz⟩:=I.tuple hq;obtain ⟨j,h1,h2,h3,h4,h5⟩:=xr he;obtain ⟨w,ew,rw'⟩:=r.get h2;have hl:=r.length;have hn:=sI;have fin:EP X pins σ Q w s:=⟨z,H,I,rw',q⟩;exact subscriptTail_builtinR (x:=w) pl.typeIs slot_tuple_getitem.lookup
  (getItem_tuple (j:=j) (Q:=λ r s'=>r=w/\EP X pins σ Q r s') pl (by omega) (by omega) (by rw [IL,<- hl]; exact h1) (by simpa using ew) ⟨rfl,fin⟩) hs
theorem FY:IxR X GT:=by
 intro value slice pins s σ H x y v u Q I rx ry h hs;obtain ⟨z,i,c,rfl,rfl,hz,he,q⟩:=h;obtain ⟨t,rfl⟩:=rx;obtain ⟨t',rfl⟩:=ry;obtain ⟨j,h1,h2,h3,h4,h5⟩:=xr he;have hl:z.cps.toList.length=z.length:=by simp [Str.length]
 rw [hl] at h1 h4 h5;have hn:=sI;exact tail_any (typeIs_str s z t) slot_str_getitem.lookup (getItem_str (c:=c) (by
  have e1:decide (i < -(2 ^ 63:Int))=false:=decide_eq_false (by omega);have e2:decide (i ≥ 2 ^ 63)=false:=decide_eq_false (by omega);rw [e1,e2,Bool.or_false]) (by rw [h1]; simpa using h2) ⟨.str ⟨#[c]⟩,H,I.tok _,⟨_,rfl⟩,q⟩) hs
noncomputable def rIx (K:Iv):R2:=λ x y H Q=>GU K x y H Q\/GS K x y H Q\/GT x y H Q
theorem Cg:IxR X (rIx X.K):=ix_list.or (ix_tup.or FY)
theorem wG (lo hi:Option Int) (n:Nat):(sliceBounds lo hi none n).1=((HT.sIx n 0 lo:Nat):Int)/\(sliceBounds lo hi none n).2.1=((HT.sIx n n hi:Nat):Int)/\(sliceBounds lo hi none n).2.2=1:=by
 refine ⟨?_,?_,rfl⟩
 ·cases lo with
  | none=>simp [sliceBounds,HT.sIx]
  | some i =>
   simp only [sliceBounds,HT.sIx,Option.getD_none,show (1:Int) > 0 by decide,if_true];by_cases h:i < 0
   ·simp only [h,if_true] <;> omega
   ·simp only [h,if_false] <;> omega
 ·cases hi with
  | none=>simp [sliceBounds,HT.sIx]
  | some i =>
   simp only [sliceBounds,HT.sIx,Option.getD_none,show (1:Int) > 0 by decide,if_true];by_cases h:i < 0
   ·simp only [h,if_true] <;> omega
   ·simp only [h,if_false] <;> omega
theorem vM (its:List IE) (lo hi:Option Int):slicePick its.toArray lo hi none=((its.drop (HT.sIx its.length 0 lo)).take (HT.sIx its.length its.length hi - HT.sIx its.length 0 lo)).toArray:=by
 obtain ⟨h1,h2,h3⟩:=wG lo hi its.toArray.size;unfold slicePick;rw [h1,h2,h3];simp only [sliceRange_one,pick_run,IL] <;> rfl
noncomputable def GQ (K:Iv):V->Option Int->Option Int->Hp->VK->Prop:=λ x lo hi H Q=>∃ a xs,x=.ref a/\SqL K H a xs/\∀ p,H p=none->Q (.ref p) (upd H p (.lst (ub xs lo hi)))
theorem sl_list:SlR X (GQ X.K):=by
 intro pins s σ H x v vl vu lo hi sl Q I rx hs pl pu h;obtain ⟨a,xs,rfl,hx,q⟩:=h;cases rx;obtain ⟨its,r,ht,hz⟩:=I.list hx;have hlen:=r.length;refine ⟨"list", _,slot_list_getitem.lookup,ht.isList.typeIs,?_⟩;refine wpAny_getItem_list_slice ht.isList hs pl pu .none (by simp) ?_ (by rw [IL] <;> omega);rw [vM,<- hlen];refine ⟨.ref s.heap.objs.size,_,I.laid (t':=s.toks) (o:=.lst (ub xs lo hi)) (λ b ob q=>IK _ q) (IF _) ?_,rfl,q _ (I.hok.fresh (IF _))⟩;exact ⟨Jd (tN xs lo hi) hz,_,0,(r.drop (HT.sIx xs.length 0 lo)).take (HT.sIx xs.length xs.length hi - HT.sIx xs.length 0 lo),Jf _ rfl⟩
noncomputable def qE:V->Bool
 | .non=>true
 | .bl _=>true
 | .int _=>true
 | .str _=>true
 | _=>false
noncomputable def eqV:V->V->Bool
 | .non,.non=>true
 | .bl a,.bl b=>a==b
 | .bl a,.int b=>(if a then 1 else 0)==b
 | .int a,.bl b=>a==(if b then 1 else 0)
 | .int a,.int b=>a==b
 | .str a,.str b=>a==b
 | _,_=>false
theorem Gb {A:JH} {s:IG} {y x:V} {u v:IE} (ry:RelV y u) (rx:RelV x v) (fy:qE y=true) (fx:qE x=true):SeqAt.EqAt A s u v (eqV y x):=by
 cases y with
 | non =>
  cases ry;cases x with
  | non=>cases rx; exact SeqAt.EqAt.same _
  | bl b=>cases rx; exact SeqAt.EqAt.none_bool b
  | int b=>obtain ⟨t,rfl⟩:=rx; exact SeqAt.EqAt.none_int b t
  | str b=>obtain ⟨t,rfl⟩:=rx; exact SeqAt.EqAt.none_str b t
  | _=>exact absurd (show false=true from fx) IT
 | bl a =>
  cases ry;cases x with
  | non=>cases rx; exact SeqAt.EqAt.bool_none a
  | bl b=>cases rx; exact SeqAt.EqAt.bool_bool a b
  | int b=>obtain ⟨t,rfl⟩:=rx; exact SeqAt.EqAt.bool_int a b t
  | str b=>obtain ⟨t,rfl⟩:=rx; exact SeqAt.EqAt.bool_str a b t
  | _=>exact absurd (show false=true from fx) IT
 | int a =>
  obtain ⟨t',rfl⟩:=ry;cases x with
  | non=>cases rx; exact SeqAt.EqAt.int_none a t'
  | bl b=>cases rx; exact SeqAt.EqAt.int_bool a t' b
  | int b=>obtain ⟨t,rfl⟩:=rx; exact SeqAt.EqAt.int_int a t' b t
  | str b=>obtain ⟨t,rfl⟩:=rx; exact SeqAt.EqAt.int_str a t' b t
  | _=>exact absurd (show false=true from fx) IT
 | str a =>
  obtain ⟨t',rfl⟩:=ry;cases x with
  | non=>cases rx; exact SeqAt.EqAt.str_none a t'
  | bl b=>cases rx; exact SeqAt.EqAt.str_bool a t' b
  | int b=>obtain ⟨t,rfl⟩:=rx; exact SeqAt.EqAt.str_int a t' b t
  | str b=>obtain ⟨t,rfl⟩:=rx; exact SeqAt.EqAt.str_str a t' b t
  | _=>exact absurd (show false=true from fx) IT
 | _=>exact absurd (show false=true from fy) IT
noncomputable def eqU (x:V) (u:IE):Bool:=match u with
 | .none=>eqV .non x
 | .bool b=>eqV (.bl b) x
 | .int i _=>eqV (.int i) x
 | .str z _=>eqV (.str z) x
 | _=>false
theorem Cq {x y:V} {u:IE} (r:RelV y u) (f:qE y=true):eqU x u=eqV y x:=by
 cases y with
 | non=>cases r; rfl
 | bl b=>cases r; rfl
 | int i=>obtain ⟨t,rfl⟩:=r; rfl
 | str z=>obtain ⟨t,rfl⟩:=r; rfl
 | _=>exact absurd (show false=true from f) IT
theorem xt {x:V}:∀ {xs:List V} {us:List IE},Vals xs us->xs.all qE=true->us.any (eqU x)=xs.any λ y=>eqV y x
 | _,_,.nil,_=>rfl
 | y::xs,u::us,.cons r t,f=>by
  rw [J2,JC] at f;rw [JN,JN,Cq r f.1,xt t f.2]
theorem uW {A:JH} {s:IG} {x:V} {v:IE} (rx:RelV x v) (fx:qE x=true):∀ {xs:List V} {us:List IE},Vals xs us->xs.all qE=true->∀ u∈us,SeqAt.EqAt A s u v (eqU x u)
 | _,_,.nil,_=>λ u hu=>by cases hu
 | y::xs,u::us,.cons r t,f=>λ u' hu=>by
  rw [J2,JC] at f;rcases IY.mp hu with rfl | hu
  ·rw [Cq r f.1]; exact Gb r rx f.1 fx
  ·exact uW rx fx t f.2 u' hu
noncomputable def inV (x:V) (xs:List V):Bool:=xs.any λ y=>eqV y x
noncomputable def rIn (K:Iv) (neg:Bool):R2:=λ x y H Q=>∃ p xs,y=.ref p/\(SqL K H p xs\/SqT K H p xs)/\qE x=true/\xs.all qE=true/\Q (.bl (if neg then !inV x xs else inV x xs)) H
theorem op_in_seq:OpR X (JG .In) (rIn X.K false):=by
 intro pins s σ H x y v u Q I rx ry h;obtain ⟨p,xs,rfl,hq,fx,fs,q⟩:=h;cases ry;rcases hq with hq | hq
 ·obtain ⟨its,r,pl,hz⟩:=I.list hq;refine SeqAt.in_listAt (eqU x) pl.isList (λ w hw=>uW rx fx r fs w (by simpa using hw)) ⟨.bl _,H,I,rfl,?_⟩;rw [show its.toArray.any (eqU x)=its.any (eqU x) by simp,xt r fs];exact q
 ·obtain ⟨its,r,pl,hz⟩:=I.tuple hq;refine SeqAt.in_tupleAt (eqU x) pl (λ w hw=>uW rx fx r fs w (by simpa using hw)) ⟨.bl _,H,I,rfl,?_⟩;rw [show its.toArray.any (eqU x)=its.any (eqU x) by simp,xt r fs];exact q
theorem call_len_seq:CallR X (.builtin "len") (λ xs H Q=>∃ p ys,xs=[.ref p]/\(SqL X.K H p ys\/SqT X.K H p ys)/\Q (.int ys.length) H):=by
 intro pins s σ H xs us Q I r h;obtain ⟨p,ys,rfl,hq,q⟩:=h;obtain ⟨u,rfl,rx⟩:=oY r;cases rx;have hn:=sI;rcases hq with hq | hq
 ·obtain ⟨its,r',pl,hz⟩:=I.list hq;have hlen:=r'.length;exact Calls.call_len_list pl.isList (by simp only [IL] <;> omega) ⟨.int ys.length,H,I.tok _,⟨s.toks+1,by rw [IL,hlen]⟩,q⟩
 ·obtain ⟨its,r',pl,hz⟩:=I.tuple hq;have hlen:=r'.length;exact len_tuple pl (by simp only [IL] <;> omega) ⟨.int ys.length,H,I.tok _,⟨s.toks+1,by rw [IL,hlen]⟩,q⟩
theorem xo:CallR X (.builtin "len") (λ xs H Q=>∃ z,xs=[.str z]/\z.length<=IB/\Q (.int z.length) H):=by
 intro pins s σ H xs us Q I r h;obtain ⟨z,rfl,hz,q⟩:=h;obtain ⟨u,rfl,t,rfl⟩:=oY r;have hn:=sI;exact len_str (by omega) ⟨.int z.length,H,I.tok _,⟨_,rfl⟩,q⟩
theorem CallR.or {f:IE} {r r':List V->Hp->VK->Prop} (h:CallR X f r) (h':CallR X f r'):CallR X f (λ xs H Q=>r xs H Q\/r' xs H Q):=by
 intro pins s σ H xs us Q I rs q;rcases q with q | q
 ·exact h pins s σ H xs us Q I rs q
 ·exact h' pins s σ H xs us Q I rs q
theorem vX:CallR X (.type "tuple") (λ xs H Q=>∃ p ys,xs=[.ref p]/\((SqL X.K H p ys/\∀ l,H l=none->Q (.ref l) (upd H l (.tup ys)))\/(SqT X.K H p ys/\Q (.ref p) H))):=by
 intro pins s σ H xs us Q I r h;obtain ⟨p,ys,rfl,h⟩:=h;obtain ⟨u,rfl,rx⟩:=oY r;cases rx;rcases h with ⟨hq,q⟩ | ⟨hq,q⟩
 ·obtain ⟨its,r',pl,hz⟩:=I.list hq;have hlen:=r'.length;refine call_tuple_list pl.isList (λ h' kp=>?_) (by simp only [IL] <;> omega);have I1:Inv X pins σ H { s with heap:=h' }:=I.kept (t':=s.toks) kp;have I2:Inv X pins σ (upd H h'.objs.size (.tup ys)) { s with heap:=h'.push { cls:=.type "tuple", data:=.seq its.toArray } } :=
   I1.laid (t':=s.toks) (λ b o e=>IK _ e) (IF _) (show ObjOk X.prog X.w _ _ _ (.tup ys) from ⟨hz,its,r',IsTup.new _ _⟩)
  exact ⟨.ref h'.objs.size,_,I2,rfl,q _ (I1.hok.fresh (IF _))⟩
 ·obtain ⟨its,r',pl,hz⟩:=I.tuple hq;exact call_tuple_same pl ⟨.ref p,H,I,rfl,q⟩
noncomputable def tyV (K:Iv) (T:String) (x:V) (H:Hp):Prop:=match x with
 | .str _=>T = "str"
 | .int _=>T = "int"
 | .ref p=>(T = "list" /\ ∃ xs,SqL K H p xs)\/(T = "tuple" /\ ∃ o,K.lookup p=some o/\o.cls=.type "tuple" /\ o.dict=none) \/
   (T = "dict" /\ ((∃ kvs,H p=some (.dK kvs))\/∃ kvs,H p=some (.dT kvs)))\/(T = "set" /\ ∃ S n,H p=some (.set S n))
 | _=>False
theorem Ff {pins:List (IS×Obj)} {σ:St} {H:Hp} {s:IG} {T:String} {x:V} {v:IE} (I:Inv X pins σ H s) (r:RelV x v) (ty:tyV X.K T x H) :
  s.TypeIs v T/\∀ a,v=.ref a->∃ ob,s.heap.get? a=some ob/\ob.dict=none:=by
 cases x with
 | str z =>
  obtain ⟨t,rfl⟩:=r;cases (show T = "str" from ty);exact ⟨typeIs_str s z t,λ _ e=>nomatch e⟩
 | int i =>
  obtain ⟨t,rfl⟩:=r;cases (show T = "int" from ty);exact ⟨typeIs_int s i t,λ _ e=>nomatch e⟩
 | ref p =>
  cases r;rcases ty with ⟨rfl,xs,hq⟩ | ⟨rfl,o,hk,hc,hd⟩ | ⟨rfl,hk⟩ | ⟨rfl,S,n,hk⟩
  ·obtain ⟨its,_,pl,_⟩:=I.list hq;refine ⟨pl.isList.typeIs,λ a e=>?_⟩;cases e;obtain ⟨o,n,e,c,hd,_⟩:=pl;exact ⟨o,e,hd⟩
  ·refine ⟨⟨o,I.kIn p o hk,hc⟩,λ a e=>?_⟩;cases e;exact ⟨o,I.kIn _ o hk,hd⟩
  ·have z:∃ o,s.heap.get? p=some o/\o.ExactDict:=by
    rcases hk with ⟨kvs,hk⟩ | ⟨kvs,hk⟩
    ·obtain ⟨_,_,_,_,o,_,_,e,ex,_⟩:=I.hok p _ hk;exact ⟨o,e,ex⟩
    ·obtain ⟨_,_,_,_,o,_,_,e,ex,_⟩:=I.hok p _ hk;exact ⟨o,e,ex⟩
   obtain ⟨o,e,ex⟩:=z;refine ⟨⟨o,e,ex.1⟩,λ a e2=>?_⟩;cases e2;exact ⟨o,e,ex.2.1⟩
  ·obtain ⟨o,_,_,_,e,ex,_⟩:=I.hok p _ hk;refine ⟨⟨o,e,ex.1⟩,λ a e2=>?_⟩;cases e2;exact ⟨o,e,ex.2.1⟩
 | _=>exact False.elim ty
noncomputable def tBM (K:Iv) (T:String) (r:V->List V->Hp->VK->Prop) (to:TE) (t:TA):TE:=λ σ H Q=>to σ H λ x H1=>tyV K T x H1/\t σ H1 λ xs H2=>r x xs H2 Q
variable {o e:Expr} {es:List Expr} {to:TE} {t:TA} {name:Str} {apos cpos:Pos} {T id:String} {r:V->List V->Hp->VK->Prop}
theorem zS (pa:PlainAttrs T) (slot:Slot T name id) (hty:typeOf (.builtin id)=pure (.type "method_descriptor")) (hm:MtR X id r) (ho:PE X o to) (ha:PA X (e::es) t)
  (hbase:attributeBase o name X.env (eval o X.env)=eval o X.env:=by rfl)
  (hfew:((backTo cpos (II (e::es) X.env)).all (λ x=>!x.1)&&(backToKw cpos (keywordEach [] X.env)).all (λ x=>x.1.isSome)
   && decide ((e::es).length+([]:List Keyword).length+(if ([]:List Keyword).isEmpty then 0 else 1) < 30))=true:=by rfl)
  (hline:(apos.endLine==cpos.line)=true:=by rfl) (hs:II (e::es) X.env=(false,eval e X.env)::II es X.env:=by rfl) (hplain:(backTo cpos (II es X.env)).any (·.1)=false:=by rfl) :
  PE X (.Call (.Attribute o name apos) (e::es) [] cpos) (tBM X.K T r to t):=by
 intro pins s σ H Q I h;refine wpAny_Call_method_late hbase hfew hline rfl (thn (ho pins s σ H _ I h) λ v s1 ⟨x,H1,I1,r1,ty,q1⟩=>?_);obtain ⟨h1,h2⟩:=Ff I1 r1 ty;refine ⟨T,id,pa,slot,hty,h1,h2,?_⟩;have hA:=ha cpos pins s1 σ H1 _ I1 q1;rw [hs] at hA ⊢;refine Calls.callWith_builtin (by show (false||(backTo cpos (II es X.env)).any (·.1))=false; rw [hplain] <;> rfl) (Calls.evalArgs_plain ?_);exact thn hA λ us s2 ⟨vs,H2,I2,r2,q2⟩=>hm pins s2 σ H2 x vs v us Q I2 r1 r2 q2
end
noncomputable def MtM (X:Cx) (id:String) (r:V->List V->Hp->VK->Prop):Prop :=
 ∀ (pins:List (IS×Obj)) (s:IG) (σ:St) (H:Hp) (x:V) (xs:List V) (v:IE) (us:List IE) (Q:VK),Inv X pins σ H s->RelV x v->Vals xs us->r x xs H Q ->
  Jp (Jt X.prog X.w) X.A (call (.builtin id) (v::us)) (EP X pins σ Q) X.xe s
theorem Vals.one:∀ {x:V} {us:List IE},Vals [x] us->∃ u,us=[u]/\RelV x u
 | _,_,.cons r .nil=>⟨_,rfl,r⟩
theorem Vals.reverse {xs:List V} {us:List IE} (h:Vals xs us):Vals xs.reverse us.reverse:=by
 induction h with
 | nil=>exact .nil
 | cons r t ih=>rw [Ko,Ko]; exact Vals.append ih (.cons r .nil)
section
variable {X:Cx} {pins:List (IS×Obj)} {σ:St} {H:Hp} {s:IG} {l b:IS} {xs ys zs:List V}
theorem Inv.lset {its its':List IE} {n:Nat} {f:Array IE->Array IE} {t':Nat} (I:Inv X pins σ H s) (hH:H l=some (.lst xs))
  (e:s.heap.get? l=some { cls:=.type "list", data:=.seq its.toArray n }) (hf:f its.toArray=its'.toArray) (hv:Vals ys its') (hz:ys.length<=IB) :
  Inv X pins σ (upd H l (.lst ys)) { s with heap:=s.heap.update l (Obj.mapSeq f),toks:=t' }:=by
 have q:=PySem.IsL.update e f;rw [hf] at q;refine I.write (x:=l) (e:=l) (by rw [hH]; exact trivial) (.inl rfl) (λ b' u hb hu=>(Heap.get?_update_other s.heap (Obj.mapSeq f) (Ne.symm hb)).trans hu) ⟨_,q⟩ ?_;exact ⟨hz,its',_,hv,q⟩
theorem Inv.lnew {its:List IE} {t':Nat} (I:Inv X pins σ H s) (hv:Vals ys its) (hz:ys.length<=IB) :
  Inv X pins σ (upd H s.heap.objs.size (.lst ys)) { s with heap:=s.heap.push { cls:=.type "list", data:=.seq its.toArray },toks:=t' } :=
 I.laid (λ _ _ q=>IK _ q) (IF _) ⟨hz,its,0,hv,Jf _ rfl⟩
theorem Inv.fresh (I:Inv X pins σ H s):H s.heap.objs.size=none:=I.hok.fresh (IF _)
theorem Inv.lstM (I:Inv X pins σ H s) (hH:H l=some (.lst xs)):xs.length<=IB/\∃ (its:List IE) (n:Nat),Vals xs its/\xs.length=its.length/\s.heap.get? l=some { cls:=.type "list", data:=.seq its.toArray n }:=by
 obtain ⟨z,its,n,r,e⟩:=I.hok l _ hH;exact ⟨z,its,n,r,r.length,e⟩
theorem BW {n:Nat} (h:n<=IB):Builtin.List.listTooLong n=false:=by
 unfold Builtin.List.listTooLong;exact decide_eq_false (by omega)
end
section
variable {X:Cx}
noncomputable def Do:V->List V->Hp->VK->Prop:=λ x vs H Q=>∃ l xs y,x=.ref l/\vs=[y]/\H l=some (.lst xs)/\xs.length < IB/\Q .non (upd H l (.lst (xs++[y])))
theorem sC:MtM X "list.append" Do:=by
 intro pins s σ H x vs v us Q I rx rv h;obtain ⟨l,xs,y,rfl,rfl,hH,hz,q⟩:=h;cases rx;obtain ⟨u,rfl,ru⟩:=rv.one;obtain ⟨z,its,n,r,hl,e⟩:=I.lstM hH;refine call_meets F.slot_list_append ⟨_,e,rfl⟩ F.entry_list_append (F.args_list_append_2 _ _) (PySem.list_append l its.toArray n u (by rw [IL]; omega)) ⟨e,?_⟩;refine ⟨.non,_,I.lset (its':=its++[u]) hH e (by simp) (r.append (.cons ru .nil)) ?_,rfl,q⟩;rw [IA,Kb];omega
end
end L2
namespace Att
open PySem PySem.W PySem.Calls PyProof.Rows
theorem t8 {P:Params} {h:Heap}:∀ (ns:List Int) (vs:List IE),WellAll P h vs (ns.map WData.int)->IntsAre vs ns:=by
 intro ns
 induction ns with
 | nil =>
  intro vs w;rw [Kv] at w;cases w;exact .nil
 | cons n ns ih =>
  intro vs w;rw [IN] at w;cases w with
  | cons a b =>
   cases a;exact .cons _ _ (ih _ b)
theorem Ay {l:OpenLaw} {n:Nat} (hn:l.most=some n) {P:Params} {h:Heap} {args:List WData} {vals:List IE}
  (hpre:l.row.toRowW.claim.pre args=true) (hwl:WellAll P h vals args) :
  ∃ a vs ns,vals=[Value.ref a]/\args=[WData.list (ns.map WData.int)]/\h.get? a=some { cls:=.type "list", data:=.seq vs.toArray }/\IntsAre vs ns/\ns.length<=n:=by
 have hsh:WShape.hasAll [] args [.list .int]=true:=(pre_splitW hpre).1;have hc:l.pre.holds [] { args:=args }=true:=(pre_splitW hpre).2;obtain ⟨d,r,rfl,h1,h2⟩:=hasAllW_cons hsh;obtain rfl:=hasAllW_nil h2;obtain ⟨xs,rfl,h3⟩:=hasW_list h1;obtain ⟨ns,rfl⟩:=items_int h3;have hlen:ns.length<=n:=by
  unfold OpenLaw.pre at hc;have h4:(WTm.not (.lt (.lit (.int (n:Int))) (.len (.arg 0)))).holds [] { args:=[.list (ns.map .int)] }=true:=by
   have h4:=(holds_andW hc).1;rw [hn] at h4;exact h4
  have h5:=condW_of h4 (w_not (w_lt w_lit (w_len_list (w_arg rfl))));rw [Iy] at h5;refine Nat.le_of_not_lt λ q=>?_;have q':(n:Int) < ((ns.length:Nat):Int):=by omega
  first
   | (rw [decide_eq_true q'] at h5; exact absurd h5 (by decide))
   | (simp at h5; omega)
 cases hwl with
 | cons w1 w2 =>
  cases w2;cases w1 with
  | list ho hall=>exact ⟨_,_,ns,rfl,rfl,ho,t8 ns _ hall,hlen⟩
theorem AC (l:OpenLaw) (args:List WData):l.row.toRowW.claim.post args (.bool true) args=true :=
 postW_of (r:=l.row.toRowW) (X:=(true==true))
  (show WShape.has [] (.bool true) .bool=true by first | rfl | decide | simp [WShape.has,WShape.arms,WShape.armsAll])
  (show (WTm.eq .res (.lit (.bool true))).value [] { args:=args,res:=some (.bool true),after:=args }=some (.bool (true==true)) from w_eq_bool (w_res rfl) w_lit) rfl
theorem attach_call {l:OpenLaw} {n:Nat} {q:Jg} {loose:List Str} {XP:(Str->Option IE)->Heap->Prop} {YP:World->Heap->Prop} {d:DefRec}
  (hn:l.most=some n) (hdf:d.params.defaults=[])
  (call:∀ (w:World) (s₀ s₁:IG) (mg mb:Str->Option IE) (fa:IS) (o:Obj) (pm cd doc:IE) (a:IS) (vs:List IE) (ns:List Int),Ground q loose [] XP w s₀ mg mb s₁.heap->YP w s₁.heap ->
   s₁.heap.get? fa=some o->o.data=.func (docDef d.name d.params d.body d.scope pm cd doc)->s₁.heap.CodeRec cd d.name->mg d.name=some (.ref fa) ->
   s₁.heap.get? a=some { cls:=.type "list", data:=.seq vs.toArray }->IntsAre vs ns->ns.length<=n->s₁.gens=#[] ->
   codeAny (Jt l.prog w) callerA (.call (.ref fa) ⟨[.ref a],[]⟩) (λ r s'=>r=.ok (.ret (.bool true))/\OldK s₁.heap s'.heap/\s'.os=s₁.os/\AllBare s'.gens) s₁) :
  WalkO q loose XP YP l.row.toRowW d [] (λ f vs=>PySem.call f vs):=by
 intro w s₀ s₁ mg mb G Y fa o pm cd doc dV kV ho hd hcd hD hmg hg args vals as hpre hlay hrd hwl hlo;obtain rfl:dV=.none:=Dflts.none hD hdf;obtain rfl:kV=.none:=Dflts.noKw hD;obtain ⟨a,vs,ns,rfl,rfl,hobj,hints,hlen⟩:=Ay hn hpre hwl;refine enter_call (codeAny_mono (call w s₀ s₁ mg mb fa o pm cd doc a vs ns G Y ho (fd_plain hd) hcd hmg hobj hints hlen hg) λ r s' hq=>?_);obtain ⟨rfl,h2,h3,h4⟩:=hq;exact ⟨.inl ⟨.bool true,.bool true,[],rfl,λ _=>rfl,.bool true,AC l _,λ _=>⟨List.Pairwise.nil,λ _ hm=>(nomatch hm)⟩⟩,h2,h3,h4⟩
section
variable {prog:Jg} {w:World} {A:JH} {E:IE->IG->Prop} {s:IG} {K:Frag}
end
end Att
namespace L2
open PySem PySem.Spec PyProof.Rows
theorem v8:∀ {vs:List IE} {ns:List Int},IntsAre vs ns->Vals (ns.map V.int) vs
 | _,_,.nil=>.nil
 | _,_,.cons n t h=>.cons ⟨t,rfl⟩ (v8 h)
noncomputable def Only (H:Hp):Prop:=∀ b,H b=none\/∃ o xs,H b=some (.frz o (.lst xs))
theorem Cb {P:Jg} {w:World} {K:Iv} {mg mb:Str->Option IE} {CX:CXT} {k:Nat} {fa a:IS} {fd:Jx} {x:Str} {sp:Sp} {s₁:IG} {vs:List IE} {ns:List Int}
  (KX:K.In s₁.heap) (hns:s₁.heap.Ns mainGlobals mg) (hb:s₁.heap.Ns builtinsNs mb) (hbb:∀ x:Str,x ≠ "__name__" -> mb x=bootBuiltins x) (hlim:s₁.heap.NoLimit) (hg:s₁.gens=#[])
  (ha:s₁.heap.get? a=some { cls:=.type "list", data:=.seq vs.toArray }) (hi:IntsAre vs ns) (hl:ns.length<=IB) (hr:Room k callerA)
  (F:∀ base:Heap,K.In base->base.Ns mainGlobals mg->FnOk P w K mg base CX k fa fd [x] sp) (hbind:∀ (s:IG) (u:IE),BindsTo s fd ⟨[u],[]⟩ [(x,u)])
  (hsp:∀ H:Hp,Only H->SqL K H a (ns.map V.int)->sp [.ref a] H (λ v _=>v=.bl true) λ _ _ _=>False)
  (hCX:∀ H e s',CX [] H s₁ (λ _ _ _=>False) e s'->False) :
  codeAny (Jt P w) callerA (.call (.ref fa) ⟨[.ref a],[]⟩) (λ r s'=>r=.ok (.ret (.bool true))/\OldK s₁.heap s'.heap/\s'.os=s₁.os/\AllBare s'.gens) s₁:=by
 have rv:=v8 hi;have lenV:=hi.length;have core:∀ H:Hp,Only H->SqL K H a (ns.map V.int)->HOk P w H s₁.heap->(∀ b,H b≠none->b=a)->(H a≠none->K.lookup a=none) ->
   codeAny (Jt P w) callerA (.call (.ref fa) ⟨[.ref a],[]⟩) (λ r s'=>r=.ok (.ret (.bool true))/\OldK s₁.heap s'.heap/\s'.os=s₁.os/\AllBare s'.gens) s₁:=by
  intro H hO hS hok hA hK;have base_of:∀ {b:IS} {o:Obj},s₁.heap.get? b=some o->H b=none->(xb s₁.heap H).get? b=some o:=λ e n=>Ck e n;have noA:∀ {b:IS} {o:Obj} {es:Array DictEntry} {ep:Nat},s₁.heap.get? b=some o->o.data=.dict es ep->H b=none:=λ {b o es ep} e d=>by
   cases q:H b with
   | none=>rfl
   | some u =>
    have e':b=a:=hA b (by rw [q]; simp);subst e';rw [ha] at e; cases e;have d':Data.seq vs.toArray _=Data.dict es ep:=d;cases d'
  have nsK:∀ {b:IS} {m:Str->Option IE},s₁.heap.Ns b m->(xb s₁.heap H).Ns b m:=λ {b m} ⟨o,es,ep,e,d,r⟩=>⟨o,es,ep,base_of e (noA e d),d,r⟩;have hKb:K.In (xb s₁.heap H):=λ b o e=>base_of (KX b o e) (by
   cases q:H b with
   | none=>rfl
   | some u =>
    have e':b=a:=hA b (by rw [q]; simp);subst e';rw [hK (by rw [q]; simp)] at e; cases e)
  have hM:Mod K mg (xb s₁.heap H):=⟨hKb,nsK hns,⟨mb,nsK hb,hbb⟩,let ⟨mc,h1,h2⟩:=hlim; ⟨mc,nsK h1,h2⟩⟩;have e0:Env0 P w K mg (xb s₁.heap H) callerA [] s₁ H:=⟨rfl,hM,λ b o e=>DI e,Nat.le_of_eq (AV _ _),trivial,λ b hb=>absurd (show b∈([]:List IS) from hb) (by simp),hok,.of_eq hg⟩;refine codeAny_mono ((F _ hKb (nsK hns)).run callerA [] s₁ H ⟨[.ref a],[]⟩ [.ref a] [.ref a] _ _ hr e0 (hbind s₁ (.ref a)) (.cons rfl .nil) (hsp H hO hS)) λ r s' h=>?_;cases r with
  | error e=>exact (hCX H e s' h).elim
  | ok fl =>
   cases fl with
   | next=>exact False.elim h
   | brk=>exact False.elim h
   | cont=>exact False.elim h
   | ret u =>
    obtain ⟨v,H',os,bare,un,hok',r',q⟩:=h;have q':v=.bl true:=q;subst q';obtain rfl:u=Value.bool true:=r';refine ⟨rfl,OldK.of_keep λ b o e=>?_,os,bare⟩;cases q:H b with
    | none=>exact un.keep b o e q (by intro z; exact absurd (show b∈([]:List IS) from z) (by simp)) (by simp)
    | some u =>
     rcases hO b with z | ⟨ob,xs,z⟩
     ·rw [q] at z; cases z
     ·have z2:=un.frzs b ob _ z;obtain ⟨e1,_⟩:=hok b _ z;obtain ⟨e2,_⟩:=hok' b _ z2;rw [e] at e1; cases e1;exact e2
 cases hk:K.lookup a with
 | some o =>
  have e:=KX a o hk;rw [ha] at e;cases e;refine core (λ _=>none) (λ _=>.inl rfl) (.inr ⟨_,vs.toArray,_,hk,rfl,rfl,rfl,by rw [IL,lenV]; exact hl,by simpa using rv⟩) (λ b u z=>by have z':(none:Option HO)=some u:=z; cases z') (λ b z=>absurd rfl z) λ z=>absurd rfl z
 | none =>
  refine core (λ b=>if b=a then some (.frz { cls:=.type "list", data:=.seq vs.toArray } (.lst (ns.map V.int))) else none) (λ b=>?_) (.inl (.inr ⟨{ cls:=.type "list", data:=.seq vs.toArray },if_pos rfl⟩)) (λ b u z=>?_) (λ b z=>?_) λ _=>hk
  ·by_cases hb:b=a
   ·exact .inr ⟨_,_,if_pos hb⟩
   ·exact .inl (if_neg hb)
  ·by_cases hb:b=a
   ·have z':=(if_pos hb).symm.trans z;cases z';subst hb;exact ⟨ha,by rw [Iy]; exact hl,vs,_,rv,ha⟩
   ·have z':=(if_neg hb).symm.trans z;cases z'
  ·by_cases hb:b=a
   ·exact hb
   ·exact absurd (if_neg hb) z
noncomputable abbrev KOf {K:Iv} {h:Heap} (_:K.In h):Iv:=K
theorem C4 {l:Kq} {n k:Nat} {q:Jg} {loose:List Str} {XP:(Str->Option IE)->Heap->Prop} {YP:World->Heap->Prop} {d:DefRec} {K:Params->Iv} {CX:World->CXT} {sp:World->Sp} {x:Str}
  (hn:l.most=some n) (hn2:n<=IB) (hdf:d.params.defaults=[]) (hr:Room k callerA)
  (hY:∀ (w:World) (h:Heap),YP w h->(K w.params).In h)
  (F:∀ (w:World) (mg:Str->Option IE) (fa:IS) (h:Heap),(K w.params).In h->h.Ns mainGlobals mg->mg d.name=some (.ref fa) ->
   ∃ fd:Jx,(∀ (s:IG) (u:IE),BindsTo s fd ⟨[u],[]⟩ [(x,u)]) /\
    ∀ base:Heap,(K w.params).In base->base.Ns mainGlobals mg->FnOk l.prog w (K w.params) mg base (CX w) k fa fd [x] (sp w))
  (hsp:∀ (w:World) (H:Hp) (a:IS) (ns:List Int),ns.length<=n->Only H->SqL (K w.params) H a (ns.map V.int)->sp w [.ref a] H (λ v _=>v=.bl true) λ _ _ _=>False)
  (hCX:∀ (w:World) (H:Hp) (s:IG) (e:IE) (s':IG),CX w [] H s (λ _ _ _=>False) e s'->False) :
  KD q loose XP YP l.row.toRowW d [] (λ f vs=>PySem.call f vs):=by
 refine Att.attach_call hn hdf λ w s₀ s₁ mg mb fa o pm cd doc a vs ns G Y ho hd hcd hmg hobj hints hlen hg=>?_;have KX:=hY w _ Y;obtain ⟨fd,hb,hF⟩:=F w mg fa _ KX G.T.g hmg;exact Cb KX G.T.g G.T.b G.T.builtins G.T.nolimit hg hobj hints (Jd hlen hn2) hr hF hb (λ H hO hS=>hsp w H a ns hlen hO hS) λ H e s'=>hCX w H s₁ e s'
noncomputable def cN (s:Stmt) (j:Nat):Stmt:=match s with
 | .ClassDef _ _ _ body _ _ _ _ _ _ _=>body.getD j (.Pass ⟨0,0,0,0⟩)
 | _=>.Pass ⟨0,0,0,0⟩
noncomputable def ur (s:Stmt):Arguments:=match s with
 | .FunctionDef _ a _ _ _ _ _ _ _ _=>a
 | _=>{ posonlyargs:=[],args:=[],vararg:=none,kwonlyargs:=[],kw_defaults:=[],kwarg:=none,defaults:=[] }
noncomputable def ot (s:Stmt):List Stmt:=match s with
 | .FunctionDef _ _ b _ _ _ _ _ _ _=>b
 | _=>[]
noncomputable def af (s:Stmt):Scope:=match s with
 | .FunctionDef _ _ _ _ _ _ sc _ _ _=>sc
 | _=>{ kind:=.function,names:=[],isGenerator:=false,isCoroutine:=false }
noncomputable abbrev CX0:CXT:=λ _ _ _ _ _ _=>False
noncomputable abbrev E0:XK:=λ _ _ _=>False
theorem uN {X:Cx}:Passes CX0 X E0:=λ _ _ _ _ _ _ _ h=>h.elim
structure Fun (K:Iv) (x qual:Str) (st:Stmt) (f:IS) (fd:Jx):Prop where
 ex:∃ (oc:IE) (od:Option IS) (kV doc pm:IE) (an:Option IS) (cdv ct:IE) (osl:Array (Option IE)),fd=Ke x qual (ur st) (ot st) (af st) .none kV doc pm an cdv ct/\K.lookup f=some ⟨oc,od,.func fd,osl⟩/\PySem.W.codeIn K cdv qual=true
 kp:JU K (.ref f)=true
section
variable {P:Jg} {w:World} {K:Iv} {mg:Str->Option IE} {base:Heap}
theorem Fun.ok {x qual:Str} {st:Stmt} {f:IS} {fd:Jx} {N ps:List Str} {k:Nat} {sp:Sp} (F:Fun K x qual st f fd) (S:aI N ps (af st)) (len:∀ vs H Q E,sp vs H Q E->vs.length=ps.length)
  (hbody:∀ (cdv:IE) (A:JH) (outer:List Env) (s:IG) (H:Hp) (vs:List V) (Q:VK) (E:XK),Room k (A.deeper (envOfC qual (af st) s.heap.objs.size f cdv))->sp vs H Q E ->
   ∃ t,PSs (yw CX0 P w K mg base N qual (af st) f cdv A outer s H E).nox (ot st) t/\t { nx:=λ _ H'=>Q .non H',rt:=Q } (start N vs) H):FnOk P w K mg base CX0 (k+1) f fd ps sp:=by
 obtain ⟨oc,od,kV,doc,pm,an,cdv,ct,osl,rfl,lk,hcd⟩:=F.ex;refine Hj lk hcd S len λ A outer s H vs Q E hr hsp=>?_;obtain ⟨t,h,q⟩:=hbody cdv A outer s H vs Q E hr hsp;exact ⟨t,h.nox,q⟩
theorem fun_mk {x qual:Str} {st:Stmt} {f:IS} {oc:IE} {od an:Option IS} {osl:Array (Option IE)} {kV doc pm cdv ct:IE} (l:K.lookup f=some ⟨oc,od,.func (Ke x qual (ur st) (ot st) (af st) .none kV doc pm an cdv ct),osl⟩)
  (c:PySem.W.codeIn K cdv qual=true) (k:JU K (.ref f)=true):Fun K x qual st f (Ke x qual (ur st) (ot st) (af st) .none kV doc pm an cdv ct):=⟨⟨oc,od,kV,doc,pm,an,cdv,ct,osl,rfl,l,c⟩,k⟩
end
theorem Ia {A B:Prop} (h:B):if false=true then A else B:=by
 rw [if_neg IT];exact h
theorem HZ {A B:Prop} (h:A):if true=true then A else B:=by
 rw [if_pos rfl];exact h
noncomputable def Same (H H':Hp):Prop:=∀ b o,H b=some o->H' b=some o
theorem Same.refl (H:Hp):Same H H:=λ _ _ h=>h
theorem Same.trans {H H1 H2:Hp} (a:Same H H1) (b:Same H1 H2):Same H H2:=λ c o h=>b c o (a c o h)
theorem Same.free {H H':Hp} (e:Same H H') {l:IS} (h:H' l=Option.none):H l=Option.none:=by
 cases q:H l with
 | none=>rfl
 | some o =>
  rw [e l o q] at h;cases h
theorem Same.seq {K:Iv} {H H':Hp} {a:IS} {xs:List V} (e:Same H H') (h:SqL K H a xs):SqL K H' a xs:=by
 rcases h with (h | ⟨o,h⟩) | h
 ·exact .inl (.inl (e _ _ h))
 ·exact .inl (.inr ⟨o,e _ _ h⟩)
 ·exact .inr h
end L2
set_option autoImplicit false
namespace L2.PU
open PySem  PySem.Spec PyProof.Rows
noncomputable def AL:Nat->(List IE->Prop)->Prop
 | 0,P=>P []
 | n+1,P=>∀ a,AL n λ l=>P (a::l)
theorem AL.all:∀ {n:Nat} {P:List IE->Prop},AL n P->∀ us:List IE,us.length=n->P us
 | 0,_,h,[],_=>h
 | n+1,_,h,a::us,e=>AL.all (n:=n) (h a) us (Nat.succ.inj e)
theorem bi_mk {K:Iv} {fd:Jx} {ps:List Str} (h:AL ps.length λ us=>bindArgs fd ⟨us,[]⟩=pure (ps.zip us)):Binds K fd ps []:=.all h.all
theorem FS {Pr:Jg} {w:World} {K:Iv} {mg:Str->Option IE} {fa f:IS} {d:Jx} {x q:Str} {st:Stmt} {k:Nat} {y:Str} {sp:Sp} (hfa:mg "law" = some (.ref fa)) (m:mg "law" = some (.ref f)) (F:Fun K x q st f d)
  (G:∀ base:Heap,FnOk Pr w K mg base CX0 k f d [y] sp) (hb:∀ (kV doc pm:IE) (an:Option IS) (cdv ct v:IE),bindArgs (Ke x q (ur st) (ot st) (af st) .none kV doc pm an cdv ct) ⟨[v],[]⟩=pure [(y,v)]) :
  ∃ fd:Jx,(∀ (s:IG) (v:IE),BindsTo s fd ⟨[v],[]⟩ [(y,v)])/\∀ base:Heap,K.In base->base.Ns mainGlobals mg->FnOk Pr w K mg base CX0 k fa fd [y] sp:=by
 cases hfa.symm.trans m;obtain ⟨oc,od,kV,doc,pm,an,cdv,ct,osl,rfl,lk,hcd⟩:=F.ex;exact ⟨_,λ s v=>.of_eq (hb kV doc pm an cdv ct v),λ base _ _=>G base⟩
theorem b6 {N P:List Str} {sc:Scope} (h1:sc.kind=.function:=by rfl) (h2:sc.isCoroutine=false:=by rfl) (h3:sc.isGenerator=false:=by rfl) (h4:N.Nodup:=by decide +kernel) (h5:N.take P.length=P:=by rfl)
  (h6:∀ x∈P,sc.names.lookup x=some .local\/sc.names.lookup x=some .cell:=by decide +kernel) (h7:∀ y∈sc.names,y.2≠.free:=by decide +kernel):aI N P sc:=⟨h1,h2,h3,h4,h5,h6,h7⟩
end L2.PU
namespace L2
open PySem PySem.Spec PyProof.Rows
section
variable {κ:Type} [DecidableEq κ]
noncomputable def lX (kvs:List (κ×V)) (k:κ):Option V:=(kvs.find? λ kv=>decide (kv.1=k)).map (·.2)
noncomputable def qc (kvs:List (κ×V)) (k:κ) (v:V):List (κ×V) :=
 if (kvs.any λ kv=>decide (kv.1=k))=true then kvs.map (λ kv=>if kv.1=k then (kv.1,v) else kv) else kvs++[(k,v)]
noncomputable def vt (kvs:List (κ×V)) (k:κ):List (κ×V):=kvs.filter λ kv=>decide (kv.1≠k)
theorem rc {p:κ×V} {r:List (κ×V)} {k:κ} (e:p.1=k):lX (p::r) k=some p.2:=by simp [lX,JM,e]
theorem re {p:κ×V} {r:List (κ×V)} {k:κ} (e:¬ p.1=k):lX (p::r) k=lX r k:=by simp [lX,JM,e]
theorem xD (k:κ):∀ kvs:List (κ×V),(kvs.any λ kv=>decide (kv.1=k))=(lX kvs k).isSome
 | []=>rfl
 | p::r=>by
  rw [JN];by_cases e:p.1=k
  ·simp only [rc e,decide_eq_true e,Bool.true_or,Option.isSome_some]
  ·rw [re e,decide_eq_false e,Bool.false_or]; exact xD k r
theorem pC (kvs:List (κ×V)) (k:κ) (v:V):(qc kvs k v).length<=kvs.length+1:=by
 unfold qc
 split
 ·rw [Iy]; omega
 ·rw [IA,IX,List.length_nil]; omega
theorem RelO.isSome_eq {o:Option V} {u:Option IE} (r:RelO o u):o.isSome=u.isSome:=by
 cases o with
 | none=>cases u with
  | none=>rfl
  | some _=>exact (show False from r).elim
 | some _=>cases u with
  | none=>exact (show False from r).elim
  | some _=>rfl
theorem KV.val {kvs:List (κ×V)} {vs:List (κ×IE)} (r:KV kvs vs) (k:κ):RelO (lX kvs k) (valueAt vs k):=by
 unfold KV at r
 induction r with
 | nil=>exact True.intro
 | @cons p q ps qs h t ih =>
  obtain ⟨h1,h2⟩:=h;by_cases e:p.1=k
  ·have e':q.1=k:=h1.symm.trans e;have b:valueAt (q::qs) k=some q.2:=by simp [valueAt,JM,e']
   rw [rc e,b]; exact h2
  ·have e':¬ q.1=k:=λ z=>e (h1.trans z);have b:valueAt (q::qs) k=valueAt qs k:=by simp [valueAt,JM,e']
   rw [re e,b]; exact ih
theorem KV.any {kvs:List (κ×V)} {vs:List (κ×IE)} (r:KV kvs vs) (k:κ):(kvs.any λ kv=>decide (kv.1=k))=vs.any λ kv=>decide (kv.1=k):=by
 unfold KV at r
 induction r with
 | nil=>rfl
 | cons h t ih=>rw [JN,JN,ih,h.1]
theorem KV.repl {kvs:List (κ×V)} {vs:List (κ×IE)} (r:KV kvs vs) (k:κ) {y:V} {u:IE} (ry:RelV y u) :
  KV (kvs.map λ kv=>if kv.1=k then (kv.1,y) else kv) (vs.map λ kv=>if kv.1=k then (kv.1,u) else kv):=by
 unfold KV at r ⊢
 induction r with
 | nil=>exact .nil
 | @cons p q ps qs h t ih =>
  rw [IN,IN];refine .cons ?_ ih;obtain ⟨h1,h2⟩:=h;by_cases e:p.1=k
  ·rw [if_pos e,if_pos (h1.symm.trans e)]; exact ⟨h1,ry⟩
  ·rw [if_neg e,if_neg (λ z=>e (h1.trans z))]; exact ⟨h1,h2⟩
theorem KV.put {kvs:List (κ×V)} {vs:List (κ×IE)} (r:KV kvs vs) (k:κ) {y:V} {u:IE} (ry:RelV y u):KV (qc kvs k y) (stored vs k u):=by
 unfold qc stored;rw [r.any k];by_cases e:(vs.any λ kv=>decide (kv.1=k))=true
 ·rw [if_pos e,if_pos e]; exact r.repl k ry
 ·rw [if_neg e,if_neg e]; exact Paired.snoc r ⟨rfl,ry⟩
theorem KV.drop {kvs:List (κ×V)} {vs:List (κ×IE)} (r:KV kvs vs) (k:κ):KV (vt kvs k) (without vs k):=by
 unfold KV at r ⊢;unfold vt without
 induction r with
 | nil=>exact .nil
 | @cons p q ps qs h t ih =>
  obtain ⟨h1,h2⟩:=h;rw [JX,JX];by_cases e:p.1=k
  ·have a:¬ decide (p.1≠k)=true:=by simp [e]
   have b:¬ decide (q.1≠k)=true:=by simp [h1.symm.trans e]
   rw [if_neg a,if_neg b]; exact ih
  ·have e':¬ q.1=k:=λ z=>e (h1.trans z);have a:decide (p.1≠k)=true:=by simp [e]
   have b:decide (q.1≠k)=true:=by simp [e']
   rw [if_pos a,if_pos b]; exact .cons ⟨h1,h2⟩ ih
theorem KV.length {kvs:List (κ×V)} {vs:List (κ×IE)} (r:KV kvs vs):kvs.length=vs.length:=Paired.length r
theorem Ct (kvs:List (κ×V)) (k:κ):(vt kvs k).length<=kvs.length:=JO _ _
end
theorem ve {P:Jg} {w:World} {k:Key} {u:IE} (r:RelV (kV k) u):(eG P w).is k u=true:=by
 cases k with
 | inl i=>obtain ⟨t,e⟩:=(show ∃ t,u=Value.int i t from r); subst e; exact x9 P w i t
 | inr x=>obtain ⟨t,e⟩:=(show ∃ t,u=Value.str x t from r); subst e; exact xZ P w x t
theorem wl {P:Jg} {w:World}:∀ {ks:List Key} {us:List IE},Vals (ks.map kV) us->ItemsAre (eG P w) ks us
 | [],_,r=>by rw [Kv] at r; cases r; exact .nil
 | k::ks,_,r=>by
  rw [IN] at r;cases r with
  | cons h t=>exact .cons (ve h) (wl t)
noncomputable abbrev KT (H:Hp):List (List Key×V)->List (List Key×IS×IE)->Prop:=Paired λ p q=>p.1=q.1/\H q.2.1=some (.tup (p.1.map kV))/\RelV p.2 q.2.2
theorem KT.val {H:Hp} {kvs:List (List Key×V)} {xs:List (List Key×IS×IE)} (r:KT H kvs xs) (k:List Key):RelO (lX kvs k) ((atKey xs k).map (·.2)):=by
 induction r with
 | nil=>exact True.intro
 | @cons p q ps qs h t ih =>
  obtain ⟨h1,_,h2⟩:=h;by_cases e:p.1=k
  ·have e':q.1=k:=h1.symm.trans e;have b:atKey (q::qs) k=some q.2:=by simp [atKey,JM,e']
   rw [rc e,b]; exact h2
  ·have e':¬ q.1=k:=λ z=>e (h1.trans z);have b:atKey (q::qs) k=atKey qs k:=by simp [atKey,JM,e']
   rw [re e,b]; exact ih
theorem KT.repl {H:Hp} {kvs:List (List Key×V)} {xs:List (List Key×IS×IE)} (r:KT H kvs xs) (k:List Key) {y:V} {u:IE} (ry:RelV y u) :
  KT H (kvs.map λ kv=>if kv.1=k then (kv.1,y) else kv) (xs.map (putAt k u)):=by
 induction r with
 | nil=>exact .nil
 | @cons p q ps qs h t ih =>
  rw [IN,IN];refine .cons ?_ ih;obtain ⟨h1,h2,h3⟩:=h;unfold putAt;by_cases e:p.1=k
  ·rw [if_pos e,if_pos (h1.symm.trans e)]; exact ⟨h1,h2,ry⟩
  ·rw [if_neg e,if_neg (λ z=>e (h1.trans z))]; exact ⟨h1,h2,h3⟩
theorem KT.put {H:Hp} {kvs:List (List Key×V)} {xs:List (List Key×IS×IE)} (r:KT H kvs xs) (k:List Key) {b:IS} {y:V} {u:IE} (hb:H b=some (.tup (k.map kV))) (ry:RelV y u) :
  KT H (qc kvs k y) (storedH xs k b u):=by
 have e:(kvs.any λ kv=>decide (kv.1=k))=(atKey xs k).isSome:=by
  rw [xD,(r.val k).isSome_eq,Option.isSome_map]
 unfold qc storedH;rw [e];by_cases q:(atKey xs k).isSome=true
 ·rw [if_pos q,if_pos q]; exact r.repl k ry
 ·rw [if_neg q,if_neg q]; exact Paired.snoc r ⟨rfl,hb,ry⟩
theorem KT.keeps {H H':Hp} {kvs:List (List Key×V)} {xs:List (List Key×IS×IE)} (r:KT H kvs xs) (ht:∀ b ys,H b=some (.tup ys)->H' b=some (.tup ys)):KT H' kvs xs :=
 Paired.mapP r λ _ _ z=>⟨z.1,ht _ _ z.2.1,z.2.2⟩
section
variable {P:Jg} {w:World} {H:Hp} {h:Heap} {a:IS}
theorem EK {u:HO} (ok:HOk P w H h) (e:Rd H a u):ObjOk P w H h a u:=e.ok ok
theorem wq {kvs:List (Key×V)} (ok:HOk P w H h) (e:Rd H a (.dK kvs)):kvs.length<=IB/\(a==sysModules)=false/\∃ vs,KV kvs vs/\h.DictOf (eG P w) a vs :=
 show ObjOk P w H h a (.dK kvs) from EK ok e
theorem Cv {kvs:List (Key×V)} (ok:HOk P w H h) (e:H a=some (.dK kvs)):kvs.length<=IB/\(a==sysModules)=false/\∃ vs,KV kvs vs/\h.DictOf (eG P w) a vs:=wq ok (.inl e)
theorem u7 {ks:List Key} (ok:HOk P w H h) (e:H a=some (.tup (ks.map kV))):(tupleKind (eG P w)).is h ks a:=by
 obtain ⟨_,its,r,o,h1,h2,n,h3⟩:=(show ObjOk P w H h a (.tup (ks.map kV)) from ok a _ e);exact ⟨o,its.toArray,n,h1,h2,h3,by simpa using wl r⟩
theorem wp {kvs:List (List Key×V)} (ok:HOk P w H h) (e:Rd H a (.dT kvs)):kvs.length<=IB/\(a==sysModules)=false /\
  ∃ xs,KT H kvs xs/\h.DictOfH (tupleKind (eG P w)) a xs:=by
 obtain ⟨z,y,xs,r,o,es,ep,h1,h2,h3,h4,h5⟩:=(show ObjOk P w H h a (.dT kvs) from EK ok e);refine ⟨z,y,xs,r,o,es,ep,h1,h2,h3,h4,λ x hx=>?_,h5⟩;have all:∀ {l:List (List Key×V)} {m:List (List Key×IS×IE)},KT H l m->∀ x∈m,(tupleKind (eG P w)).is h x.1 x.2.1:=by
  intro l m q
  induction q with
  | nil=>intro x hx; exact nomatch hx
  | @cons p q ps qs hq t ih =>
   intro x hx;rcases IY.mp hx with e | hx
   ·subst e;exact u7 ok (by rw [<- hq.1]; exact hq.2.1)
   ·exact ih x hx
 exact all r x hx
theorem Hq {kvs:List (List Key×V)} (ok:HOk P w H h) (e:H a=some (.dT kvs)):kvs.length<=IB/\(a==sysModules)=false /\
  ∃ xs,KT H kvs xs/\h.DictOfH (tupleKind (eG P w)) a xs:=wp ok (.inl e)
end
noncomputable def DGet (H:Hp) (a:IS) (y:V) (r:Option V):Prop :=
 (∃ kvs k,Rd H a (.dK kvs)/\y=kV k/\r=lX kvs k)\/∃ kvs k b,Rd H a (.dT kvs)/\y=.ref b/\H b=some (.tup (k.map kV))/\r=lX kvs k
noncomputable def DPut (H:Hp) (a:IS) (y v:V) (H':Hp):Prop :=
 (∃ kvs k,H a=some (.dK kvs)/\y=kV k/\kvs.length < IB/\H'=upd H a (.dK (qc kvs k v))) \/
 ∃ kvs k b,H a=some (.dT kvs)/\y=.ref b/\H b=some (.tup (k.map kV))/\kvs.length < IB/\H'=upd H a (.dT (qc kvs k v))
section
variable {X:Cx} {pins:List (IS×Obj)} {σ:St} {H:Hp} {s:IG} {a:IS} {y v:V} {u r:IE} {o:Option V} {A:JH} {E:IE->IG->Prop}
theorem Inv.big (I:Inv X pins σ H s):sysModules < s.heap.objs.size:=by
 have h:mainGlobals < s.heap.objs.size:=(I.mod.glob.keeps I.bk).lt;exact Nat.lt_trans (by decide) h
theorem AY {Q:IE->IG->Prop} (hu:A.units+1 < cLine) (I:Inv X pins σ H s) (g:DGet H a y (some v)) (ry:RelV y u) (h:∀ w' s',Inv X pins σ H s'->RelV v w'->Q w' s') :
  Jp (Jt X.prog X.w) A (getItem (.ref a) u) Q E s:=by
 rcases g with ⟨kvs,k,e,ey,l⟩ | ⟨kvs,k,b,e,ey,eb,l⟩
 ·subst ey;obtain ⟨z,hd,vs,rel,dd⟩:=wq I.hok e;obtain ⟨w',hw,rw'⟩:=RelO.some_of (v:=v) (o:=valueAt vs k) (by rw [l]; exact rel.val k);exact wpAny_getItem_of (ve ry) dd.mapOf hw (h w' _ (I.tok _) rw')
 ·subst ey;cases (show u=Value.ref b from ry);obtain ⟨z,hd,xs,rel,dd⟩:=wp I.hok e;obtain ⟨w',hw,rw'⟩:=RelO.some_of (v:=v) (o:=(atKey xs k).map (·.2)) (by rw [l]; exact rel.val k);obtain ⟨p,hp,hp2⟩:=Option.map_eq_some_iff.mp hw;refine wpAny_getItem_heap (tupleKind_room_in1 hu) (u7 I.hok eb) dd hp ?_;rw [hp2];exact h w' _ (I.tok _) rw'
theorem Ih {Q:IE->IG->Prop} (hu:A.units+1 < cLine) (I:Inv X pins σ H s) (g:DGet H a y o) (ry:RelV y u) (h:∀ s',Inv X pins σ H s'->Q (.bool o.isSome) s') :
  Jp (Jt X.prog X.w) A (JG .In u (.ref a)) Q E s:=by
 rcases g with ⟨kvs,k,e,ey,l⟩ | ⟨kvs,k,b,e,ey,eb,l⟩
 ·subst ey;obtain ⟨z,hd,vs,rel,dd⟩:=wq I.hok e;refine wpAny_in_of (ve ry) hd dd.mapOf ?_;rw [<- (rel.val k).isSome_eq,<- l];exact h _ (I.tok _)
 ·subst ey;cases (show u=Value.ref b from ry);obtain ⟨z,hd,xs,rel,dd⟩:=wp I.hok e;refine wpAny_in_heap (tupleKind_room_in1 hu) (u7 I.hok eb) hd dd ?_;have q:=(rel.val k).isSome_eq;rw [Option.isSome_map] at q;rw [<- q,<- l];exact h _ (I.tok _)
theorem Em {Q:IE->IG->Prop} (hu:A.units+1 < cLine) (I:Inv X pins σ H s) (g:DGet H a y o) (ry:RelV y u) (h:∀ s',Inv X pins σ H s'->Q (.bool (!o.isSome)) s') :
  Jp (Jt X.prog X.w) A (JG .NotIn u (.ref a)) Q E s:=by
 rcases g with ⟨kvs,k,e,ey,l⟩ | ⟨kvs,k,b,e,ey,eb,l⟩
 ·subst ey;obtain ⟨z,hd,vs,rel,dd⟩:=wq I.hok e;refine wpAny_notIn_of (ve ry) hd dd.mapOf ?_;rw [<- (rel.val k).isSome_eq,<- l];exact h _ (I.tok _)
 ·subst ey;cases (show u=Value.ref b from ry);obtain ⟨z,hd,xs,rel,dd⟩:=wp I.hok e;refine wpAny_notIn_heap (tupleKind_room_in1 hu) (u7 I.hok eb) hd dd ?_;have q:=(rel.val k).isSome_eq;rw [Option.isSome_map] at q;rw [<- q,<- l];exact h _ (I.tok _)
theorem ut {h':Heap} {t':Nat} {ob:HO} (I:Inv X pins σ H s) (mu:Mut (H a)) (hs:Heap.SameBut a s.heap h') (he:∃ q,h'.get? a=some q) (new:ObjOk X.prog X.w (upd H a ob) h' a ob) :
  Inv X pins σ (upd H a ob) { s with heap:=h',toks:=t' } :=
 I.write (x:=a) (e:=a) mu (.inl rfl) (λ b q hb z=>(hs.2 b hb).trans z) he new
theorem zl {P:Jg} {w:World} {H':Hp} {h':Heap} {kvs:List (Key×V)} {vs:List (Key×IE)} (z:kvs.length<=IB) (hd:(a==sysModules)=false) (rel:KV kvs vs) (dd:h'.DictOf (eG P w) a vs) :
  ObjOk P w H' h' a (.dK kvs):=⟨z,hd,vs,rel,dd⟩
theorem AX {H':Hp} {Q:Unit->IG->Prop} (hu:A.units+1 < cLine) (I:Inv X pins σ H s) (g:DPut H a y v H') (ry:RelV y u) (rv:RelV v r) (h:∀ s',Inv X pins σ H' s'->Q () s') :
  Jp (Jt X.prog X.w) A (setItem (.ref a) u r) Q E s:=by
 rcases g with ⟨kvs,k,e,ey,l,eH⟩ | ⟨kvs,k,b,e,ey,eb,l,eH⟩
 ·subst ey eH;obtain ⟨z,hd,vs,rel,dd⟩:=Cv I.hok e;have hz:vs.length<=IB:=by rw [<- rel.length]; exact z
  have hl:(qc kvs k v).length<=IB:=by have:=pC kvs k v; omega
  refine wpAny_setItem_pairs (hsz:=hz) (ve ry) dd λ h' dd' hs=>h _ ?_;have he:∃ q,h'.get? a=some q:=let ⟨q,_,_,hq,_⟩:=dd'; ⟨q,hq⟩;exact ut I (by rw [e]; exact True.intro) hs he (zl hl hd (rel.put k rv) dd')
 ·subst ey eH;cases (show u=Value.ref b from ry);obtain ⟨z,hd,xs,rel,dd⟩:=Hq I.hok e;have hz:xs.length<=IB:=by rw [<- Paired.length rel]; exact z
  have hl:(qc kvs k v).length<=IB:=by have:=pC kvs k v; omega
  refine wpAny_setItem_heap (hsz:=hz) (tupleKind_room_in1 hu) (u7 I.hok eb) dd λ h' dd' hs=>h _ ?_;obtain ⟨q,es,ep,hq,h2,h3,h4,_,h5⟩:=dd';refine ut I (by rw [e]; exact True.intro) hs ⟨q,hq⟩ ⟨hl,hd,_,(rel.put k eb rv).keeps λ c ys ec=>?_,q,es,ep,hq,h2,h3,h4,h5⟩;rw [am (G1 ec e (λ z=>nomatch z))];exact ec
end
section
variable {X:Cx} {pins:List (IS×Obj)} {σ:St} {H:Hp} {s:IG} {a:IS} {kvs:List (Key×V)} {k:Key} {u:IE} {A:JH} {E:IE->IG->Prop}
theorem Hr {v:V} {more:List IE} {Q:IE->IG->Prop} (I:Inv X pins σ H s) (e:H a=some (.dK kvs)) (ry:RelV (kV k) u) (l:lX kvs k=some v) (hm:more=[]\/∃ x,more=[x])
  (h:∀ w' s',Inv X pins σ (upd H a (.dK (vt kvs k))) s'->RelV v w'->Q w' s'):Jp (Jt X.prog X.w) A (call (.builtin "dict.pop") (.ref a::u::more)) Q E s:=by
 obtain ⟨z,hd,vs,rel,dd⟩:=Cv I.hok e;obtain ⟨w',hw,rw'⟩:=RelO.some_of (v:=v) (o:=valueAt vs k) (by rw [<- l]; exact rel.val k);have hp:(keyPart u).isSome=true:=by
  cases k with
  | inl i=>obtain ⟨t,q⟩:=(show ∃ t,u=Value.int i t from ry); subst q; rfl
  | inr x=>obtain ⟨t,q⟩:=(show ∃ t,u=Value.str x t from ry); subst q; rfl
 have ha:argsOk "dict.pop" ⟨.ref a::u::more,[]⟩:=by
  rcases hm with q | ⟨x,q⟩
  ·subst q; exact PySem.F.args_dict_pop_2 _ _
  ·subst q; exact PySem.F.args_dict_pop_3 _ _ _
 refine call_meetsIn PySem.F.slot_dict_pop dd.typeIs PySem.F.entry_dict_pop ha (meets_dict_pop_there (eG X.prog X.w) a (ve ry) more hm hp)
  ⟨vs,w',dd,by rw [<- rel.length]; exact z,hw,λ h' dd' hs=>h w' _ ?_ rw'⟩
 have he:∃ q,h'.get? a=some q:=let ⟨q,_,_,hq,_⟩:=dd'; ⟨q,hq⟩;exact ut I (by rw [e]; exact True.intro) hs he (zl (Jd (Ct kvs k) z) hd (rel.drop k) dd')
end
noncomputable def Gt (i:Expr):Prop:=∀ ov iv,subscripted i false ov iv=operate [ov,iv] (getItem ov iv)
theorem Db {prog:Jg} {w:World} {A:JH} {E:IE->IG->Prop} {s:IG} {env:Env} {value slice:Expr} {pos:Pos} {T id:String} {Q:IE->IG->Prop}
  (hl:typeLookup (.type T) "__getitem__" = pure (some (.builtin id))) (hs:Gt slice)
  (h:Jp (Jt prog w) A (eval value env) (λ o s₁=>Jp (Jt prog w) A (eval slice env) (λ i s₂=>s₂.TypeIs o T/\Jp (Jt prog w) A (getItem o i) Q E s₂) E s₁) E s) :
  Jp (Jt prog w) A (eval (.Subscript value slice pos) env) Q E s:=by
 refine Subscript_ (wpAny_mono h (λ o s₁ h₁=>wpAny_mono h₁ (λ i s₂ h₂=>?_) λ _ _ x=>x) λ _ _ x=>x);obtain ⟨hT,h₂⟩:=h₂;unfold subscriptTail;refine IR ?_;rw [getitemInPython_of_ne hT.not_modules];refine IR (wpAny_specialOf hT hl ?_);have fin:Jp (Jt prog w) A (subscripted slice false o i) (λ r s₃=>Jp (Jt prog w) A (letTemporaryGo value o r >>= λ _=>pure r) Q E s₃) E s₂:=by
  rw [hs o i];exact wpAny_operating (wpAny_mono h₂ (λ r s₃ h₃=>IR (wpAny_letTemporaryGo (Ja h₃))) λ _ _ x=>x)
 first
  | exact Ja (IR fin)
  | exact IR (Ja (IR fin))
  | exact IR fin
theorem yp {X:Cx} {pins:List (IS×Obj)} {σ:St} {H:Hp} {s:IG} {a:IS} {y:V} {o:Option V} (I:Inv X pins σ H s) (g:DGet H a y o):s.TypeIs (.ref a) "dict" := by
 rcases g with ⟨kvs,k,e,_,_⟩ | ⟨kvs,k,b,e,_,_,_⟩
 ·obtain ⟨_,_,vs,_,dd⟩:=wq I.hok e;exact dd.typeIs
 ·obtain ⟨_,_,xs,_,dd⟩:=wp I.hok e;exact dd.typeIs
noncomputable def GG (td ty:TE):TE:=λ σ H Q=>td σ H λ x H1=>ty σ H1 λ y H2=>∃ a v,x=.ref a/\DGet H2 a y (some v)/\Q v H2
noncomputable def HR (ty td:TE):TE:=λ σ H Q=>ty σ H λ y H1=>td σ H1 λ x H2=>∃ a o,x=.ref a/\DGet H2 a y o/\Q (.bl o.isSome) H2
noncomputable def Da (ty td:TE):TE:=λ σ H Q=>ty σ H λ y H1=>td σ H1 λ x H2=>∃ a o,x=.ref a/\DGet H2 a y o/\Q (.bl (!o.isSome)) H2
noncomputable def GM (td ty tv:TE):TS:=λ D σ H=>tv σ H λ v H1=>td σ H1 λ x H2=>ty σ H2 λ y H3=>∃ a H4,x=.ref a/\DPut H3 a y v H4/\D.nx σ H4
section
variable {X:Cx} {o i e value:Expr} {pos pos' tpos:Pos} {td ty tv:TE}
theorem DA (hu:X.A.units+1 < cLine) (ho:PE X o td) (hi:PE X i ty) (hs:Gt i):PE X (.Subscript o i pos) (GG td ty):=by
 intro pins s σ H Q I h;refine Db PySem.F.slot_dict_getitem.lookup hs (thn (ho pins s σ H _ I h) λ u s1 ⟨x,H1,I1,rx,q1⟩=>thn (hi pins s1 σ H1 _ I1 q1) λ iv s2 ⟨y,H2,I2,ry,a,v,ex,g,q2⟩=>?_);subst ex;obtain rfl:u=Value.ref a:=rx;exact ⟨yp I2 g,AY hu I2 g ry λ w' s3 I3 rw'=>⟨v,H2,I3,rw',q2⟩⟩
theorem FH (hu:X.A.units+1 < cLine) (hi:PE X i ty) (ho:PE X o td):PC X .In i o (HR ty td):=by
 intro pins s σ H Q I h;refine thn (hi pins s σ H _ I h) λ iv s1 ⟨y,H1,I1,ry,q1⟩=>thn (ho pins s1 σ H1 _ I1 q1) λ u s2 ⟨x,H2,I2,rx,a,ov,ex,g,q2⟩=>?_;subst ex;obtain rfl:u=Value.ref a:=rx;exact Ih hu I2 g ry λ s3 I3=>⟨.bl ov.isSome,H2,I3,rfl,q2⟩
theorem AF (hu:X.A.units+1 < cLine) (hi:PE X i ty) (ho:PE X o td):PC X .NotIn i o (Da ty td):=by
 intro pins s σ H Q I h;refine thn (hi pins s σ H _ I h) λ iv s1 ⟨y,H1,I1,ry,q1⟩=>thn (ho pins s1 σ H1 _ I1 q1) λ u s2 ⟨x,H2,I2,rx,a,ov,ex,g,q2⟩=>?_;subst ex;obtain rfl:u=Value.ref a:=rx;exact Em hu I2 g ry λ s3 I3=>⟨.bl (!ov.isSome),H2,I3,rfl,q2⟩
theorem Du (hu:X.A.units+1 < cLine) (ho:PE X o td) (hi:PE X i ty) (hv:PE X value tv) (hs:swapsWith value (some (.Subscript o i pos')) pos.line X.env=pure false) :
  PS X (.Assign [.Subscript o i pos'] value pos) (GM td ty tv):=by
 intro pins s σ H D I h;refine wpAny_Assign_Subscript (thn (hv pins s σ H _ I h) λ r s1 ⟨v,H1,I1,rv,q1⟩=>thn (ho pins s1 σ H1 _ I1 q1) λ u s2 ⟨x,H2,I2,rx,q2⟩=>thn (hi pins s2 σ H2 _ I2 q2) λ iv s3 ⟨y,H3,I3,ry,a,H4,ex,g,q3⟩=>?_) hs;subst ex;obtain rfl:u=Value.ref a:=rx;exact AX hu I3 g ry rv λ s4 I4=>⟨σ,H4,I4,q3⟩
end
theorem Cw {P:Jg} {w:World} {H:Hp} (h:Heap) (hb:sysModules < h.objs.size):ObjOk P w H (h.push { cls:=.type "dict", data:=.dict #[] }) h.objs.size (.dK []) :=
 ⟨Kf _,beq_eq_false_iff_ne.mpr (Ne.symm (Je hb)),[],.nil,Heap.DictOf.new h⟩
noncomputable def Fo:TE:=λ _ H Q=>∀ p,H p=none->Q (.ref p) (upd H p (.dK []))
section
variable {X:Cx} {pos:Pos}
theorem BM:PE X (.Dict [] [] pos) Fo:=λ pins s σ H Q I h =>
 wpAny_Dict_empty ⟨.ref s.heap.objs.size,_,I.laid (a:=s.heap.objs.size) (o:=.dK []) (t':=s.toks) (λ _ _ q=>IK _ q) (IF _) (Cw s.heap I.big),rfl,h _ (I.hok.fresh (IF _))⟩
end
structure M1 (X:Cx) (o:Expr) (m:Str) (apos:Pos) (e:Expr) (cpos:Pos):Prop where
 base:attributeBase o m X.env (eval o X.env)=eval o X.env
 few:((backTo cpos (II [e] X.env)).all (λ x=>!x.1)&&(backToKw cpos (keywordEach [] X.env)).all (λ x=>x.1.isSome)
  && decide (([e]:List Expr).length+([]:List Keyword).length+(if ([]:List Keyword).isEmpty then 0 else 1) < 30))=true
 line:(apos.endLine==cpos.line)=true
 trees:backTo cpos (II [e] X.env)=[(false,eval e X.env)]
structure M2 (X:Cx) (o:Expr) (m:Str) (apos:Pos) (e f:Expr) (cpos:Pos):Prop where
 base:attributeBase o m X.env (eval o X.env)=eval o X.env
 few:((backTo cpos (II [e,f] X.env)).all (λ x=>!x.1)&&(backToKw cpos (keywordEach [] X.env)).all (λ x=>x.1.isSome)
  && decide (([e,f]:List Expr).length+([]:List Keyword).length+(if ([]:List Keyword).isEmpty then 0 else 1) < 30))=true
 line:(apos.endLine==cpos.line)=true
 trees:backTo cpos (II [e,f] X.env)=[(false,eval e X.env),(false,eval f X.env)]
noncomputable def IsD (H:Hp) (a:IS):Prop:=(∃ kvs,Rd H a (.dK kvs))\/∃ kvs,Rd H a (.dT kvs)
theorem zf {X:Cx} {pins:List (IS×Obj)} {σ:St} {H:Hp} {s:IG} {a:IS} (I:Inv X pins σ H s) (d:IsD H a) :
  s.TypeIs (.ref a) "dict" /\ (∀ b,Value.ref a=.ref b->∃ ob,s.heap.get? b=some ob/\ob.dict=none)/\(a==sysModules)=false:=by
 rcases d with ⟨kvs,e⟩ | ⟨kvs,e⟩
 ·obtain ⟨_,hd,vs,_,dd⟩:=wq I.hok e;refine ⟨dd.typeIs,λ b q=>?_,hd⟩;cases q;obtain ⟨ob,_,_,h1,h2,_⟩:=dd;exact ⟨ob,h1,h2.2.1⟩
 ·obtain ⟨_,hd,xs,_,dd⟩:=wp I.hok e;refine ⟨dd.typeIs,λ b q=>?_,hd⟩;cases q;obtain ⟨ob,_,_,h1,h2,_⟩:=dd;exact ⟨ob,h1,h2.2.1⟩
noncomputable def Fm (td ty:TE):TE:=λ σ H Q=>td σ H λ x H1=>∃ a,x=.ref a/\IsD H1 a/\ty σ H1 λ y H2=>∃ kvs k v,H2 a=some (.dK kvs)/\y=kV k/\lX kvs k=some v/\Q v (upd H2 a (.dK (vt kvs k)))
section
variable {X:Cx} {o e f:Expr} {apos cpos:Pos} {td ty tx:TE}
theorem BK (ho:PE X o td) (he:PE X e ty) (m:M1 X o "pop" apos e cpos):PE X (.Call (.Attribute o "pop" apos) [e] [] cpos) (Fm td ty):=by
 intro pins s σ H Q I h;refine wpAny_Call_method m.base m.few m.line PySem.F.plainAttrs_dict PySem.F.slot_dict_pop PySem.F.type_dict_pop (thn (ho pins s σ H _ I h) λ u s1 ⟨x,H1,I1,rx,a,ex,d,q1⟩=>?_);subst ex;obtain rfl:u=Value.ref a:=rx;obtain ⟨t1,t2,_⟩:=zf I1 d;refine ⟨t1,t2,?_⟩;rw [m.trees];refine Calls.callWith_builtin rfl (Calls.evalArgs_plain (Calls.spliced_cons (thn (he pins s1 σ H1 _ I1 q1) λ iv s2 ⟨y,H2,I2,ry,kvs,k,v,ea,ey,l,q2⟩=>Calls.spliced_nil ?_)));subst ey;exact Hr I2 ea ry l (.inl rfl) λ w' s3 I3 rw'=>⟨v,_,I3,rw',q2⟩
end
end L2
namespace L2
open PySem
noncomputable def xm (env:Env):List (Str×NameKind)->List (Str×IS)->List (Str×IS)
 | [],cs=>cs
 | (n,k)::r,cs=>xm env r (if k==.free then (n,(env.cells.lookup n).getD 0)::cs else cs)
noncomputable def yy (scope:Scope) (env:Env):List (Str×IS):=xm env scope.names []
theorem qF {scope:Scope} {env:Env} (h:∀ x∈scope.names,x.2=.free->∃ c,env.cells.lookup x.1=some c):closureFor scope env=pure (yy scope env):=by
 unfold closureFor yy;have key:∀ (l:List (Str×NameKind)) (cs:List (Str×IS)),(∀ x∈l,x.2=.free->∃ c,env.cells.lookup x.1=some c) ->
   (forIn l cs (λ x (r:List (Str×IS))=>match x with
    | (name,kind)=>if (kind==NameKind.free)=true then do let a <- cellOf env name; pure (ForInStep.yield ((name,a)::r)) else pure (ForInStep.yield r)):Sem (List (Str×IS)))=pure (xm env l cs):=by
  intro l
  induction l with
  | nil=>intro cs _; rfl
  | cons x r ih =>
   intro cs hx;obtain ⟨n,k⟩:=x;rw [List.forIn_cons];by_cases hk:(k==NameKind.free)=true
   ·obtain ⟨c,hc⟩:=hx (n,k) IW (by simpa using hk);have e:cellOf env n=pure c:=by unfold cellOf; rw [show env.cells.lookup n=some c from hc]
    simp only [hk,if_true,e,pure_bind];rw [ih _ λ y hy=>hx y (IQ _ hy)];have hc':env.cells.lookup n=some c:=hc;simp only [xm,hk,if_true,hc',Option.getD_some]
   ·simp only [hk,Bool.false_eq_true,if_false,pure_bind];rw [ih _ λ y hy=>hx y (IQ _ hy)];simp only [xm,hk,Bool.false_eq_true,if_false]
 have:=key scope.names [] h
 dsimp only;rw [this];rfl
theorem yz (env:Env):∀ (l:List (Str×NameKind)) (cs:List (Str×IS)) (p:Str×IS),p∈xm env l cs->p∈cs\/((p.1,NameKind.free)∈l/\p.2=(env.cells.lookup p.1).getD 0)
 | [],cs,p,h=>.inl h
 | (n,k)::r,cs,p,h=>by
  unfold xm at h;rcases yz env r _ p h with h | ⟨h1,h2⟩
  ·by_cases hk:(k==NameKind.free)=true
   ·rw [if_pos hk] at h;rcases IY.mp h with h | h
    ·have e:k=.free:=by simpa using hk
     subst h; subst e;exact .inr ⟨IW,rfl⟩
    ·exact .inl h
   ·rw [if_neg hk] at h; exact .inl h
  ·exact .inr ⟨IQ _ h1,h2⟩
theorem yA (env:Env):∀ (l:List (Str×NameKind)) (cs:List (Str×IS)) (n:Str),((n,NameKind.free)∈l\/∃ a,(n,a)∈cs)->∃ a,(n,a)∈xm env l cs
 | [],cs,n,h=>by
  rcases h with h | h
  ·cases h
  ·exact h
 | (m,k)::r,cs,n,h=>by
  unfold xm;refine yA env r _ n ?_;rcases h with h | ⟨a,h⟩
  ·rcases IY.mp h with h | h
   ·cases h;exact .inr ⟨_,by rw [if_pos (by simp)]; exact IW⟩
   ·exact .inl h
  ·refine .inr ⟨a,?_⟩
   split
   ·exact IQ _ h
   ·exact h
theorem md {β:Type}:∀ {l:List (Str×β)} {n:Str} {a:β},(n,a)∈l->∃ b,l.lookup n=some b
 | [],_,_,h=>by cases h
 | (m,b)::r,n,a,h=>by
  rw [JY];by_cases e:n=m
  ·subst e; simp
  ·have hb:(n==m)=false:=by simpa using e
   rw [hb];rcases IY.mp h with h | h
   ·cases h; exact absurd rfl e
   ·exact md h
theorem Aj {scope:Scope} {env:Env} (h:∀ x∈scope.names,x.2=.free->∃ c,env.cells.lookup x.1=some c) {x:Str} {c:IS} (e:(yy scope env).lookup x=some c):env.cells.lookup x=some c:=by
 have m:=PySem.mem_of_lookup e;rcases yz env scope.names [] (x,c) m with h' | ⟨h1,h2⟩
 ·cases h'
 ·obtain ⟨d,hd⟩:=h _ h1 rfl;have hd':env.cells.lookup x=some d:=hd;have h2':c=(env.cells.lookup x).getD 0:=h2;rw [hd'] at h2' ⊢;rw [h2']; rfl
theorem yx {scope:Scope} {env:Env} {x:Str} (h:(x,NameKind.free)∈scope.names):∃ c,(yy scope env).lookup x=some c:=by
 obtain ⟨a,ha⟩:=yA env scope.names [] x (.inl h);exact md ha
end L2
namespace L2
open PySem PySem.Spec PyProof.Rows
structure CompSc (X:Cx) (scope:Scope) (N':List Str) (mp:List (Option Nat)):Prop where
 kind:scope.kind=.function
 nocell:∀ x∈scope.names,x.2≠.cell
 names:∀ x∈scope.names,x.2=.local->scope.names.lookup x.1=some .local
 fr:∀ x∈scope.names,x.2=.free->X.env.scope.names.lookup x.1=some .cell\/X.env.scope.names.lookup x.1=some .free
 len:mp.length=N'.length
 map:∀ (i:Nat) (x:Str) (j:Nat),N'[i]?=some x->mp[i]?=some (some j)->X.N[j]?=some x/\(x,NameKind.free)∈scope.names/\((relabel scope X.env).names.lookup x=some .cell\/(relabel scope X.env).names.lookup x=some .free)
noncomputable def mh (mp:List (Option Nat)) (σ:St):St:=mp.map λ o=>o.bind λ j=>(σ[j]?).join
noncomputable def cI (X:Cx) (scope:Scope) (N':List Str) (s:IG) (H:Hp) (fp:List IS):Cx :=
 { X with N:=N',s₀:=s,H₀:=H,env:=compEnvC scope (yy scope X.env) s.heap.objs.size X.env,outer:=X.stack,ex:=fp,fn:=λ _=>false,pn:=[],xe:=λ _ _=>False }
theorem wJ {scope:Scope} {env:Env} {x:Str} (nc:∀ y∈scope.names,y.2≠.cell) (h:(relabel scope env).names.lookup x=some .cell\/(relabel scope env).names.lookup x=some .free):(x,NameKind.free)∈scope.names:=by
 have m:∃ k,(x,k)∈(relabel scope env).names/\(k=.cell\/k=.free):=by
  rcases h with h | h
  ·exact ⟨_,PySem.mem_of_lookup h,.inl rfl⟩
  ·exact ⟨_,PySem.mem_of_lookup h,.inr rfl⟩
 obtain ⟨k,hm,hk⟩:=m;unfold relabel at hm;obtain ⟨⟨n,k'⟩,hin,e⟩:=JP.mp hm;dsimp only at e;split at e
 ·rename_i hc;have e1:n=x:=congrArg Prod.fst e;have e2:k'=.free:=by
   have:=(J4.mp (J4.mp hc).1).1
   simpa using this
  rw [<- e1,<- e2]; exact hin
 ·have e1:n=x:=congrArg Prod.fst e;have e2:k'=k:=congrArg Prod.snd e;rcases hk with hk | hk
  ·exact absurd (e2.trans hk) (nc _ hin)
  ·rw [<- e1,<- hk,<- e2]; exact hin
section
variable {X:Cx} {pins:List (IS×Obj)} {σ:St} {H:Hp} {s:IG} {scope:Scope} {N':List Str} {mp:List (Option Nat)} {fp:List IS}
theorem CompSc.cells (ck:CompSc X scope N' mp) (ok:X.Ok):∀ x∈scope.names,x.2=.free->∃ c,X.env.cells.lookup x.1=some c:=λ x hx hf=>ok.has x.1 (ck.fr x hx hf)
theorem Inv.inner (I:Inv X pins σ H s) (ck:CompSc X scope N' mp) (hf:∀ b∈fp,pZ X pins H b) (hlt:∀ b∈fp,b < s.heap.objs.size) {h₁:Heap} {tk:Nat}
  (hn:h₁.Ns s.heap.objs.size (λ _=>none)) (hk:∀ b o,s.heap.get? b=some o->h₁.get? b=some o) :
  Inv (cI X scope N' s H fp) [] (mh mp σ) H { s with heap:=h₁,toks:=tk }:=by
 have hfree:=ck.cells I.ok;have cin:∀ x c,(yy scope X.env).lookup x=some c->X.env.cells.lookup x=some c:=λ x c e=>Aj hfree e;have clt:∀ x c,X.env.cells.lookup x=some c->c < s.heap.objs.size:=λ x c e=>by
  obtain ⟨v,q⟩:=I.cell x c e;exact q.lt
 refine ⟨⟨I.ok.mod,ck.kind,I.ok.glob,I.ok.blt,IF _,λ x y c h1 h2=>I.ok.inj x y c (cin x c h1) (cin y c h2),λ x hx=>?_,λ x c h _=>?_,I.ok.hd,I.ok.frames,.inl rfl,λ b hb=>⟨?_,λ x c e=>?_⟩,I.bs,Jd I.ok.bsz I.sz,λ b o e hb=>?_,λ b hb hs=>?_,I.stack,I.stkFree⟩,rfl,I.bare,Un.kept hk,⟨_,hn,λ i x v h1 h2 h3=>?_⟩,λ x c e=>?_,I.hok.fresh (IF _),λ x c e=>?_,λ p hp=>absurd (show p∈([]:List (IS×Obj)) from hp) (by simp),I.hok.kept hk,?_⟩
 ·exact yx (wJ ck.nocell hx)
 ·exact absurd (show false=true from h) (by decide)
 ·exact Je (hlt b hb)
 ·exact (hf b hb).2.2.2.2.1 x c (cin x c e)
 ·have q:=(hf b hb).2.2.2.1;rcases q with q | q
  ·exact I.ok.noex b o e q
  ·exact absurd (IV (IU e) (Jd I.ok.bsz q)) (JW _)
 ·rcases IY.mp (I.stkSub b hs) with z | z
  ·exact (hf b hb).2.1 z
  ·exact (hf b hb).2.2.1 z
 ·have hi:∃ j,mp[i]?=some (some j)/\σ[j]?=some (some v):=by
   unfold mh at h2;rw [IP] at h2;cases q:mp[i]? with
   | none=>rw [q] at h2; cases h2
   | some o =>
    rw [q] at h2;have h2':(o.bind λ j=>(σ[j]?).join)=some v:=Option.some.inj h2;cases o with
    | none=>cases h2'
    | some j =>
     have h2'':(σ[j]?).join=some v:=h2';refine ⟨j,rfl,?_⟩;cases r:σ[j]? with
     | none=>rw [r] at h2''; cases h2''
     | some w' =>
      rw [r] at h2''
      have:w'=some v:=h2''
      rw [this]
  obtain ⟨j,hj,hσ⟩:=hi;obtain ⟨m1,m2,m3⟩:=ck.map i x j h1 hj;obtain ⟨m,hm,hl⟩:=I.loc;have vis:Vis X.env.scope x:=by
   rcases ck.fr _ m2 rfl with q | q
   ·exact .inr (.inl q)
   ·exact .inr (.inr q)
  obtain ⟨u,ru,l⟩:=hl j x v m1 hσ vis;refine ⟨u,ru,.inr ⟨m3,?_⟩⟩;obtain ⟨c,hc⟩:=yx (env:=X.env) m2;refine ⟨c,hc,?_⟩;rcases l with ⟨k,_⟩ | ⟨_,c',e',z⟩
  ·rcases ck.fr _ m2 rfl with q | q
   ·have k':X.env.scope.names.lookup x=some .local:=k;have q':X.env.scope.names.lookup x=some .cell:=q;rw [k'] at q'; cases q'
   ·have k':X.env.scope.names.lookup x=some .local:=k;have q':X.env.scope.names.lookup x=some .free:=q;rw [k'] at q'; cases q'
  ·have e2:=cin x c hc;rw [e'] at e2;cases e2;obtain ⟨o,ho,hd⟩:=z;exact ⟨o,hk _ o ho,hd⟩
 ·obtain ⟨v,o,ho,hd⟩:=I.cell x c (cin x c e);exact ⟨v,o,hk _ o ho,hd⟩
 ·exact I.freeC x c (cin x c e)
 ·show (mh mp σ).length=N'.length;unfold mh;rw [Iy];exact ck.len
theorem Inv.outer {σ':St} {H':Hp} {s':IG} (I:Inv X pins σ H s) (hf:∀ b∈fp,pZ X pins H b) (J:Inv (cI X scope N' s H fp) [] σ' H' s'):Inv X pins σ H' s' :=
 I.call' (ch:=fp) J.os J.base J.hok J.bare λ b hb=>⟨(hf b hb).2.2.2.1,(hf b hb).2.1,(hf b hb).2.2.2.2.1,(hf b hb).2.2.2.2.2⟩
end
noncomputable def xz (σ σ':St):Prop:=σ'.length=σ.length/\∀ (i:Nat) v,σ[i]?=some (some v)->σ'[i]?=some (some v)
noncomputable def PTs (X:Cx) (ifs:List Expr) (t:TT):Prop :=
 ∀ (pins:List (IS×Obj)) (s:IG) (σ:St) (H:Hp) (Q:Bool->Hp->Prop),Inv X pins σ H s->t σ H Q ->
  Jp (Jt X.prog X.w) X.A (forIn ifs true λ c r=>if r=true then do let ok <- isTrue c X.env (eval c X.env); pure (ForInStep.yield ok) else pure (ForInStep.yield r)) (TP X pins σ Q) X.xe s
theorem Ds {X:Cx}:PTs X [] (λ _ H Q=>Q true H):=λ _ _ _ H _ I h=>wpAny_tests_nil ⟨H,I,h⟩
theorem Dq {X:Cx} {c:Expr} {t:TT} (hc:PT X c t):PTs X [c] t:=λ pins s σ H Q I h=>wpAny_tests_one (hc pins s σ H Q I h)
noncomputable def Fa (J:It) (σ':St) (g:TG) (tt:TT) (te:TE) (D:IS) (Fin:Hp->Prop) (H1:Hp):Prop :=
 ∃ W:Nat->Nat->Hp->Prop,(∃ m,W 0 m (upd H1 D (.lst [])))/\∀ i m H,W i m H ->
  (J.stop i H/\Fin H)\/(J.go i H/\∃ Nx:Hp->Prop,(∀ H',Nx H'->∃ m',m' < m/\W (i+1) m' H')/\∀ x H',J.yld i H x H'->g x σ' H' λ σ2 H2=>xz σ' σ2 /\
   tt σ2 H2 λ ok H3=>if ok=true then te σ2 H3 λ y H4=>∃ ys,H4 D=some (.lst ys)/\ys.length < IB/\Nx (upd H4 D (.lst (ys++[y]))) else Nx H3)
noncomputable def zF (mp:List (Option Nat)) (wi:TI) (g:TG) (tt:TT) (te:TE):TE:=λ σ H Q=>wi σ H λ J H1=>∀ D,H1 D=none->Fa J (mh mp σ) g tt te D (λ H=>Q (.ref D) H) H1
theorem pQ {prog:Jg} {w:World} {A:JH} {R:Result->IG->Prop} {s:IG} {elt target iter:Expr} {ifs:List Expr} {scope:Scope} {pos:Pos} {it acc:IE} {env:Env} (I:Nat->IG->Prop)
  (turn:∀ n s,I n s->Jp (Jt prog w) A (pyNext it) (λ r s₁=>match r with
   | none=>R (.ok .next) s₁
   | some v=>Jp (Jt prog w) A (letOwnedTupleGo target it v) (λ _ s₀=>Jp (Jt prog w) A (assign target env v) (λ _ s₂ =>
     Jp (Jt prog w) A (forIn ifs true λ c r=>if r=true then do let ok <- isTrue c env (eval c env); pure (ForInStep.yield ok) else pure (ForInStep.yield r)) (λ ok s₃ =>
      if ok=true then Jp (Jt prog w) A (eval elt env) (λ x s₄ =>
       Jp (Jt prog w) A (call (.builtin "list.append") [acc,x]) (λ _ s₅=>∃ m,m < n/\I m s₅) (λ _ _=>False) s₄) (λ _ _=>False) s₃
      else ∃ m,m < n/\I m s₃) (λ _ _=>False) s₂) (λ _ _=>False) s₀) (λ _ _=>False) s₁) (λ _ _=>False) s)
  (n:Nat) (h:I n s) :
  codeAny (Jt prog w) A (.compLoop (.ListComp elt [⟨target,iter,ifs,0⟩] scope pos) 0 it acc env) R s:=by
 refine codeAny_loop rfl I (λ n s hI=>?_) n h;show Jp _ A ((compTurn (.ListComp elt [⟨target,iter,ifs,0⟩] scope pos) 0 it acc env).onRaise (λ x=>do noteFrame x env; theTreesLotGoes x)) _ _ s;refine wpAny_noted ?_;rw [compTurn_list];have no:∀ {P:IE->IG->Prop} (e:IE) (s':IG),False->P e s':=λ _ _ f=>f.elim;refine IR (wpAny_standAt (IR (wpAny_mono (turn n s hI) (λ r s₁ h₁=>?_) no)));cases r with
 | none=>exact Ja h₁
 | some v =>
  refine IR (wpAny_mono h₁ (λ _ s₀ h₀=>?_) no);refine IR (wpAny_mono h₀ (λ _ s₂ h₂=>IR (wpAny_mono h₂ (λ ok s₃ h₃=>?_) no)) no);cases ok with
  | false=>exact Ja ⟨rfl,h₃⟩
  | true =>
   exact IR (IR (wpAny_mono h₃ (λ x s₄ h₄=>IR (wpAny_mono h₄ (λ _ s₅ h₅=>Ja (Ja ⟨rfl,h₅⟩)) no)) no))
section
variable {X:Cx} {elt iter tg:Expr} {ifs:List Expr} {scope:Scope} {pos:Pos} {N':List Str} {mp:List (Option Nat)} {wi:TI} {g:TG} {tt:TT} {te:TE}
theorem vz {pins:List (IS×Obj)} {σ:St} {H:Hp} {s:IG} {J:It} {it:IS} {fp:List IS} {tn:Nat->Heap->Prop} {Fin:Hp->Prop} {E:IE->IG->Prop} {RR:IE->IS->Result->IG->Prop}
  (hc:X.calm=true) (ck:CompSc X scope N' mp) (hb:∀ s H fp,PG (cI X scope N' s H fp) tg g/\PTs (cI X scope N' s H fp) ifs tt/\PE (cI X scope N' s H fp) elt te)
  (I:Inv X pins σ H s) (T:Turn X.prog X.w X.K tg J fp it tn) (st:tn 0 s.heap) (hf:∀ b∈fp,pZ X pins H b) (hq:Fa J (mh mp σ) g tt te s.heap.objs.size Fin H)
  (hRR:∀ (C:IS) (s':IG) (H':Hp),Inv X pins σ H' s'->Fin H'->(∃ m,s'.heap.Ns C m)->H' C=none->C≠X.env.locals->X.s₀.heap.objs.size<=C->(∀ x c,X.env.cells.lookup x=some c->c≠C)->(∀ p∈X.pn++pins,p.1≠C)->RR (.ref s.heap.objs.size) C (.ok .next) s') :
  Jp (Jt X.prog X.w) X.A (newList []) (λ acc s₃=>Jp (Jt X.prog X.w) X.A (newFunctionEnv scope X.env.globals (yy scope X.env) [] X.env.qual none .none (some X.env)) (λ cenv s₄ =>
   codeAny (Jt X.prog X.w) X.A (.compStart (.ListComp elt [⟨tg,iter,ifs,0⟩] scope pos) 0 (.ref it) acc { cenv with scope:=relabel scope X.env }) (RR acc cenv.locals) s₄) E s₃) E s:=by
 refine wpAny_newObj_type (wpAny_newFunctionEnv ck.nocell (by intro y hy; simp at hy) (λ h₁ hns₁ hsb₁=>?_) ck.kind);dsimp only at hns₁ hsb₁ ⊢;have I3:Inv X pins σ (upd H s.heap.objs.size (.lst [])) { s with heap:=s.heap.push { cls:=.type "list", dict:=none,data:=.seq ([]:List IE).toArray } }:=I.lnew (its:=[]) (t':=s.toks) .nil (Kf _);generalize hs3:({ s with heap:=s.heap.push { cls:=.type "list", dict:=none,data:=.seq ([]:List IE).toArray } }:IG)=s3 at I3;have e3:s.heap.push { cls:=.type "list", dict:=none,data:=.seq ([]:List IE).toArray }=s3.heap:=by rw [<- hs3]
 rw [e3] at hns₁ hsb₁ ⊢;have sz3:s3.heap.objs.size=s.heap.objs.size+1:=by rw [<- e3,Heap.size_push]
 have le3:s.heap.objs.size<=s3.heap.objs.size:=by rw [sz3]; exact Nat.le_succ _
 have fplt:∀ b∈fp,b < s.heap.objs.size:=λ b hb=>by
  obtain ⟨o,e,_⟩:=T.obj 0 _ st b hb;exact IU e
 have hf3:∀ b∈fp,pZ X pins (upd H s.heap.objs.size (.lst [])) b:=λ b hb=>⟨by rw [am (Je (fplt b hb))]; exact (hf b hb).1,(hf b hb).2⟩;have k1:∀ b o,s3.heap.get? b=some o->h₁.get? b=some o:=λ b o e=>by
  rw [hsb₁.2 b (Je (IU e))];exact IK _ e
 have k0:∀ b o,s.heap.get? b=some o->h₁.get? b=some o:=λ b o e=>k1 b o (by rw [<- e3]; exact IK _ e);obtain ⟨W,⟨m0,w0⟩,turn⟩:=hq;obtain ⟨hg,ht,he⟩:=hb s3 (upd H s.heap.objs.size (.lst [])) fp;have no:∀ {P:IE->IG->Prop} (e:IE) (s':IG),False->P e s':=λ _ _ f=>f.elim;have stat:∀ {H':Hp},(∀ b∈fp,H' b=none)->∀ b∈fp,pZ (cI X scope N' s3 (upd H s.heap.objs.size (.lst [])) fp) [] H' b:=λ hn b hb =>
  ⟨hn b hb,Je (IV (fplt b hb) le3),λ z=>by
   rcases IY.mp (I3.stkSub b z) with z | z
   ·exact (hf b hb).2.1 z
   ·exact (hf b hb).2.2.1 z,.inl hb,λ x c e=>(hf b hb).2.2.2.2.1 x c (Aj (ck.cells I.ok) e),λ p hp=>absurd (show p∈([]:List (IS×Obj)) from hp) (by simp)⟩
 have loop:∀ tk:Nat,codeAny (Jt X.prog X.w) X.A (.compLoop (.ListComp elt [⟨tg,iter,ifs,0⟩] scope pos) 0 (.ref it) (.ref s.heap.objs.size) (compEnvC scope (yy scope X.env) s3.heap.objs.size X.env))
   (RR (.ref s.heap.objs.size) s3.heap.objs.size) { s3 with heap:=h₁,toks:=tk }:=by
  intro tk;have I4:Inv (cI X scope N' s3 (upd H s.heap.objs.size (.lst [])) fp) [] (mh mp σ) (upd H s.heap.objs.size (.lst [])) { s3 with heap:=h₁,toks:=tk } :=
   I3.inner ck hf3 (λ b hb=>IV (fplt b hb) le3) (by simpa using hns₁) k1
  refine pQ (λ n s'=>∃ i H',Inv (cI X scope N' s3 (upd H s.heap.objs.size (.lst [])) fp) [] (mh mp σ) H' s'/\tn i s'.heap/\(∀ b∈fp,H' b=none)/\W i n H') ?_ m0
   ⟨0,_,I4,T.keep _ _ _ st λ b _ o e=>k0 b o e,λ b hb=>(hf3 b hb).1,w0⟩
  rintro n s5 ⟨i,H5,I5,st5,fr5,w5⟩
  rcases turn i n H5 w5 with ⟨stop,fin⟩ | ⟨go,Nx,hN,step⟩
  ·refine thn (T.done (cI X scope N' s3 (upd H s.heap.objs.size (.lst [])) fp) rfl rfl rfl hc i [] s5 (mh mp σ) H5 _ I5 (stat fr5) st5 stop) λ r s6 ⟨hr,I6⟩=>?_;subst hr;have IO:Inv X pins σ H5 s6:=I3.outer hf3 I6;obtain ⟨m,hm,_⟩:=I6.loc;refine hRR _ s6 H5 IO fin ⟨m,hm⟩ I6.free (Kx I3.lt) I3.sz (λ x c e=>?_) λ p hp=>?_
   ·obtain ⟨v,q⟩:=I3.cell x c e;exact Je q.lt
   ·exact Je (IU (I3.pin p hp).1)
  ·refine thn (T.item (cI X scope N' s3 (upd H s.heap.objs.size (.lst [])) fp) rfl rfl rfl hc i [] s5 (mh mp σ) H5 _ I5 (stat fr5) st5 go) λ r s6 ⟨u,hr,h6⟩=>?_;subst hr;refine thn h6 λ _ s7 ⟨x,H7,I7,r7,y7,st7,fr7⟩=>?_;have I7':=I7.pinned (stat fr7) (T.obj _ _ st7);have back:∀ {σ9:St} {H9:Hp} {s9:IG},Inv (cI X scope N' s3 (upd H s.heap.objs.size (.lst [])) fp) ([]++uM fp s7.heap) σ9 H9 s9->xz (mh mp σ) σ9->Nx H9 ->
     ∃ m,m < n/\∃ i H',Inv (cI X scope N' s3 (upd H s.heap.objs.size (.lst [])) fp) [] (mh mp σ) H' s9/\tn i s9.heap/\(∀ b∈fp,H' b=none)/\W i m H':=λ {σ9 H9 s9} I9 ks n9=>by
    obtain ⟨m',hm,w9⟩:=hN H9 n9;refine ⟨m',hm,i+1,H9,(Inv.unpinned (pins:=[]) I9).weak ks.1.symm ks.2,T.keep _ _ _ st7 λ b hb o e=>(I9.pin (b,o) (Ju _ (Ju _ (og hb e)))).1,λ b hb=>?_,w9⟩;obtain ⟨o,e,d⟩:=T.obj _ _ st7 b hb;exact (I9.pin (b,o) (Ju _ (Ju _ (og hb e)))).2.1
   refine thn (hg _ s7 (mh mp σ) H7 x u _ I7' r7 (step x H7 y7)) λ _ s8 ⟨σ8,H8,I8,ks,q8⟩=>?_;refine thn (ht _ s8 σ8 H8 _ I8 q8) λ ok s9 ⟨H9,I9,q9⟩=>?_;cases ok with
   | false =>
    rw [if_neg IT] at q9 ⊢;exact back I9 ks q9
   | true =>
    rw [if_pos rfl] at q9 ⊢;refine thn (he _ s9 σ8 H9 _ I9 q9) λ y s10 ⟨yv,H10,I10,r10,ys,hD,hlen,nx⟩=>?_;refine thn (sC _ s10 σ8 H10 (.ref s.heap.objs.size) [yv] (.ref s.heap.objs.size) [y] (λ _ H'=>Nx H') I10 rfl (.cons r10 .nil) ⟨_,ys,yv,rfl,rfl,hD,hlen,nx⟩) λ z s11 ⟨zv,H11,I11,_,n11⟩=>?_;exact back I11 ks n11
 subst hs3;exact codeAny_compStart_list (loop _) (T.self _ 0 _ _ _ (T.keep _ _ _ st λ b _ o e=>k0 b o e) (loop _))
theorem zQ (hc:X.calm=true) (ck:CompSc X scope N' mp) (hi:PI X tg iter wi)
  (hb:∀ s H fp,PG (cI X scope N' s H fp) tg g/\PTs (cI X scope N' s H fp) ifs tt/\PE (cI X scope N' s H fp) elt te)
  (hs:∀ x,foldedSetIterable iter X.env x=pure x:=by intro _; rfl):PE X (.ListComp elt [⟨tg,iter,ifs,0⟩] scope pos) (zF mp wi g tt te):=by
 intro pins s σ H Q I h;rw [eval_ListComp];refine wpAny_comprehension_free (use:=none) rfl hs (qF (ck.cells I.ok)) ck.kind ck.names ?_;refine thn (hi pins s σ H _ I h) λ v s1 h1=>thn h1 λ itv s2 h2=>?_;obtain ⟨it,fp,tn,J,H2,e,I2,T,st2,f2,q2⟩:=h2;subst e;refine vz hc ck hb I2 T st2 f2 (q2 _ (I2.hok.fresh (IF _))) λ C s' H' I' fin hm hC h1 h2 h3 h4=>?_;obtain ⟨m,hm⟩:=hm;refine ⟨m,hm,λ h' sb=>⟨.ref _,H',?_,rfl,fin⟩⟩;exact I'.turned (t':=s'.toks) (λ b o hb e=>(sb.2 b hb).trans e) hC h1 (.inr h2) h3 h4
theorem uK {i:Nat} {y:Str} {py spos:Pos} (hc:X.calm=true) (hN:X.N.Nodup) (hiy:X.N[i]?=some y) (hy:X.env.scope.names.lookup y=some .local) (ck:CompSc X scope N' mp) (hi:PI X tg iter wi)
  (hb:∀ s H fp,PG (cI X scope N' s H fp) tg g/\PTs (cI X scope N' s H fp) ifs tt/\PE (cI X scope N' s H fp) elt te)
  (hsw:swapsWith (.ListComp elt [⟨tg,iter,ifs,0⟩] scope pos) (some (.Name y py)) spos.line X.env=pure true:=by rfl)
  (hs:∀ x,foldedSetIterable iter X.env x=pure x:=by intro _; rfl) :
  PS X (.Assign [.Name y py] (.ListComp elt [⟨tg,iter,ifs,0⟩] scope pos) spos) (Bm (zF mp wi g tt te) (vm i)):=by
 intro pins s σ H D I h;rw [exec_Assign_Name_used _ _ _ _ hsw];refine IR (wpAny_standAt (IR ?_));show Jp _ X.A (do let _ <- comprehension (.ListComp elt [⟨tg,iter,ifs,0⟩] scope pos) scope X.env _ (newList []) false (eval iter X.env) (some (assign (.Name y py) X.env))) _ _ s;refine IR (wpAny_mono (wpAny_comprehension_free (use:=some (assign (.Name y py) X.env)) (Q:=λ _ s'=>SP X pins D .next s') rfl hs (qF (ck.cells I.ok)) ck.kind ck.names ?_) (λ _ s' hq=>Ja (Ja hq)) λ _ _ e=>e);refine thn (hi pins s σ H _ I h) λ v s1 h1=>thn h1 λ itv s2 h2=>?_;obtain ⟨it,fp,tn,J,H2,e,I2,T,st2,f2,q2⟩:=h2;subst e;refine vz hc ck hb I2 T st2 f2 (q2 _ (I2.hok.fresh (IF _))) λ C s' H' I' fin hm hC h1 h2 h3 h4=>?_;obtain ⟨m,hm⟩:=hm;refine wpAny_assign_Name (wa (v:=.ref s2.heap.objs.size) I' hN hiy (.inl hy) rfl (λ s'' I'' ⟨a,sb,ha⟩=>?_) (.inr hy));have hCa:C≠a:=by
  rcases ha with ha | ha
  ·rw [ha]; exact h1
  ·exact λ z=>h3 _ _ ha z.symm
 refine ⟨m,hm.sameBut sb hCa,λ h' sb'=>⟨_,H',?_,fin⟩⟩;exact I''.turned (t':=s''.toks) (λ b o hb e=>(sb'.2 b hb).trans e) hC h1 (.inr h2) h3 h4
end
end L2
namespace L2.PU
open PySem PySem.Spec PyProof.Rows
noncomputable def nst:Expr->Bool
 | .Starred _ _=>false
 | _=>true
theorem cg {e:Expr} {es:List Expr} {env:Env} (h:nst e=true):II (e::es) env=(false,eval e env)::II es env:=by
 cases e <;> first | rfl | cases h
theorem jE {pos:Pos} {env:Env}:∀ {es:List Expr},es.all nst=true->(backTo pos (II es env)).any (·.1)=false
 | [],_=>rfl
 | e::es,h=>by
  rw [J2,JC] at h;rw [cg h.1];show (false||(backTo pos (II es env)).any (·.1))=false;rw [jE h.2]; rfl
noncomputable def kD:Key->Iw
 | .inl i=>.int i
 | .inr x=>.str x
mutual
noncomputable def Rel (K:Iv) (F:Hp):Iw->V->Prop
 | .none,v=>v=.non
 | .bool b,v=>v=.bl b
 | .int i,v=>v=.int i
 | .str x,v=>v=.str x
 | .tuple ds,v=>∃ a xs,v=.ref a/\SqT K F a xs/\RelL K F ds xs
 | .list ds,v=>∃ a xs,v=.ref a/\SqL K F a xs/\RelL K F ds xs
 | .dict es,v=>∃ a ks,v=.ref a/\Rd F a (.dK ks)/\RelD K F es ks
noncomputable def RelL (K:Iv) (F:Hp):List Iw->List V->Prop
 | [],xs=>xs=[]
 | d::ds,xs=>∃ x r,xs=x::r/\Rel K F d x/\RelL K F ds r
noncomputable def RelD (K:Iv) (F:Hp):List (Iw×Iw)->List (Key×V)->Prop
 | [],ks=>ks=[]
 | (d,e)::es,ks=>∃ k x r,ks=(k,x)::r/\d=kD k/\Rel K F e x/\RelD K F es r
end
section
variable {K:Iv} {F F' H H':Hp}
theorem dg {a:IS} {xs:List V} (e:Same H H') (h:SqT K H a xs):SqT K H' a xs:=by
 rcases h with (h | ⟨o,h⟩) | h
 ·exact .inl (.inl (e _ _ h))
 ·exact .inl (.inr ⟨o,e _ _ h⟩)
 ·exact .inr h
theorem Dk {a:IS} {u:HO} (e:Same F F') (h:Rd F a u):Rd F' a u:=h.elim (λ h=>.inl (e _ _ h)) λ ⟨o,h⟩=>.inr ⟨o,e _ _ h⟩
theorem fu {p:IS} (h:H p=none) (o:HO):Same H (upd H p o):=λ b u q=>by rw [am (aB q h)]; exact q
mutual
theorem Rel.mono (e:Same F F'):∀ {d:Iw} {v:V},Rel K F d v->Rel K F' d v
 | .none,v,h=>by unfold Rel at h ⊢; exact h
 | .bool b,v,h=>by unfold Rel at h ⊢; exact h
 | .int i,v,h=>by unfold Rel at h ⊢; exact h
 | .str x,v,h=>by unfold Rel at h ⊢; exact h
 | .tuple ds,v,h=>by
  unfold Rel at h ⊢;obtain ⟨a,xs,h1,h2,h3⟩:=h;exact ⟨a,xs,h1,dg e h2,RelL.mono e h3⟩
 | .list ds,v,h=>by
  unfold Rel at h ⊢;obtain ⟨a,xs,h1,h2,h3⟩:=h;exact ⟨a,xs,h1,e.seq h2,RelL.mono e h3⟩
 | .dict es,v,h=>by
  unfold Rel at h ⊢;obtain ⟨a,ks,h1,h2,h3⟩:=h;exact ⟨a,ks,h1,Dk e h2,RelD.mono e h3⟩
theorem RelL.mono (e:Same F F'):∀ {ds:List Iw} {xs:List V},RelL K F ds xs->RelL K F' ds xs
 | [],xs,h=>by unfold RelL at h ⊢; exact h
 | d::ds,xs,h=>by
  unfold RelL at h ⊢;obtain ⟨x,r,h1,h2,h3⟩:=h;exact ⟨x,r,h1,Rel.mono e h2,RelL.mono e h3⟩
theorem RelD.mono (e:Same F F'):∀ {es:List (Iw×Iw)} {ks:List (Key×V)},RelD K F es ks->RelD K F' es ks
 | [],ks,h=>by unfold RelD at h ⊢; exact h
 | (d,e')::es,ks,h=>by
  unfold RelD at h ⊢;obtain ⟨k,x,r,h1,h2,h3,h4⟩:=h;exact ⟨k,x,r,h1,h2,Rel.mono e h3,RelD.mono e h4⟩
end
theorem Rel.dct {es:List (Iw×Iw)} {v:V} (h:Rel K F (.dict es) v):∃ a ks,v=.ref a/\Rd F a (.dK ks)/\RelD K F es ks:=by unfold Rel at h; exact h
theorem zL {es:List (Iw×Iw)} {a:IS} {ks:List (Key×V)} (h:Rd F a (.dK ks)) (r:RelD K F es ks):Rel K F (.dict es) (.ref a):=by unfold Rel; exact ⟨a,ks,rfl,h,r⟩
theorem RelD.nil:RelD K F [] []:=by unfold RelD; rfl
theorem RelD.nil_of {ks:List (Key×V)} (h:RelD K F [] ks):ks=[]:=by unfold RelD at h; exact h
theorem RelD.cons_of {d e:Iw} {es:List (Iw×Iw)} {ks:List (Key×V)} (h:RelD K F ((d,e)::es) ks):∃ k x r,ks=(k,x)::r/\d=kD k/\Rel K F e x/\RelD K F es r:=by unfold RelD at h; exact h
theorem RelD.cons {k:Key} {e:Iw} {x:V} {es:List (Iw×Iw)} {ks:List (Key×V)} (h:Rel K F e x) (t:RelD K F es ks):RelD K F ((kD k,e)::es) ((k,x)::ks):=by unfold RelD; exact ⟨k,x,ks,rfl,rfl,h,t⟩
noncomputable def prs (kvs:List (Key×Iw)):List (Iw×Iw):=kvs.map λ e=>(kD e.1,e.2)
theorem RelL.nil:RelL K F [] []:=by unfold RelL; rfl
theorem RelL.cons {d:Iw} {ds:List Iw} {x:V} {xs:List V} (h:Rel K F d x) (t:RelL K F ds xs):RelL K F (d::ds) (x::xs):=by unfold RelL; exact ⟨x,xs,rfl,h,t⟩
theorem RelL.nil_of {xs:List V} (h:RelL K F [] xs):xs=[]:=by unfold RelL at h; exact h
theorem RelL.cons_of {d:Iw} {ds:List Iw} {xs:List V} (h:RelL K F (d::ds) xs):∃ x r,xs=x::r/\Rel K F d x/\RelL K F ds r:=by unfold RelL at h; exact h
theorem RelL.length:∀ {ds:List Iw} {xs:List V},RelL K F ds xs->xs.length=ds.length
 | [],xs,h=>by rw [h.nil_of]; rfl
 | d::ds,xs,h=>by
  obtain ⟨x,r,rfl,_,h3⟩:=h.cons_of;rw [IX,IX,RelL.length h3]
theorem RelL.append:∀ {ds es:List Iw} {xs ys:List V},RelL K F ds xs->RelL K F es ys->RelL K F (ds++es) (xs++ys)
 | [],es,xs,ys,h,k=>by rw [h.nil_of]; exact k
 | d::ds,es,xs,ys,h,k=>by
  obtain ⟨x,r,rfl,h2,h3⟩:=h.cons_of;exact RelL.cons h2 (RelL.append h3 k)
theorem RelL.get:∀ {ds:List Iw} {xs:List V} {i:Nat} {d:Iw},RelL K F ds xs->ds[i]?=some d->∃ x,xs[i]?=some x/\Rel K F d x
 | [],_,_,_,_,e=>by simp at e
 | d::ds,xs,0,_,h,e=>by
  obtain ⟨x,r,rfl,h2,h3⟩:=h.cons_of;have e':d=_:=Option.some.inj e;exact ⟨x,rfl,e' ▸ h2⟩
 | d::ds,xs,i+1,d',h,e=>by
  obtain ⟨x,r,rfl,h2,h3⟩:=h.cons_of;exact RelL.get (i:=i) h3 (by simpa using e)
theorem RelL.take:∀ {ds:List Iw} {xs:List V} (n:Nat),RelL K F ds xs->RelL K F (ds.take n) (xs.take n)
 | _,_,0,_=>by rw [List.take_zero,List.take_zero]; exact .nil
 | [],xs,n+1,h=>by rw [h.nil_of]; exact .nil
 | d::ds,xs,n+1,h=>by
  obtain ⟨x,r,rfl,h2,h3⟩:=h.cons_of;exact RelL.cons h2 (RelL.take n h3)
theorem RelL.drop:∀ {ds:List Iw} {xs:List V} (n:Nat),RelL K F ds xs->RelL K F (ds.drop n) (xs.drop n)
 | _,_,0,h=>by simpa using h
 | [],xs,n+1,h=>by rw [h.nil_of]; exact .nil
 | d::ds,xs,n+1,h=>by
  obtain ⟨x,r,rfl,h2,h3⟩:=h.cons_of;exact RelL.drop n h3
theorem RelL.reverse:∀ {ds:List Iw} {xs:List V},RelL K F ds xs->RelL K F ds.reverse xs.reverse
 | [],xs,h=>by rw [h.nil_of]; exact .nil
 | d::ds,xs,h=>by
  obtain ⟨x,r,rfl,h2,h3⟩:=h.cons_of;rw [Ko,Ko];exact RelL.append (RelL.reverse h3) (.cons h2 .nil)
theorem Rel.non {v:V} (h:Rel K F .none v):v=.non:=by unfold Rel at h; exact h
theorem Rel.bl {b:Bool} {v:V} (h:Rel K F (.bool b) v):v=.bl b:=by unfold Rel at h; exact h
theorem Rel.int {i:Int} {v:V} (h:Rel K F (.int i) v):v=.int i:=by unfold Rel at h; exact h
theorem Rel.str {x:Str} {v:V} (h:Rel K F (.str x) v):v=.str x:=by unfold Rel at h; exact h
theorem Rel.tup {ds:List Iw} {v:V} (h:Rel K F (.tuple ds) v):∃ a xs,v=.ref a/\SqT K F a xs/\RelL K F ds xs:=by unfold Rel at h; exact h
theorem Rel.lst {ds:List Iw} {v:V} (h:Rel K F (.list ds) v):∃ a xs,v=.ref a/\SqL K F a xs/\RelL K F ds xs:=by unfold Rel at h; exact h
theorem p6:Rel K F .none .non:=by unfold Rel; rfl
theorem gz {b:Bool}:Rel K F (.bool b) (.bl b):=by unfold Rel; rfl
theorem c6 {i:Int}:Rel K F (.int i) (.int i):=by unfold Rel; rfl
theorem n5 {x:Str}:Rel K F (.str x) (.str x):=by unfold Rel; rfl
theorem iD {ds:List Iw} {a:IS} {xs:List V} (h:SqT K F a xs) (r:RelL K F ds xs):Rel K F (.tuple ds) (.ref a):=by unfold Rel; exact ⟨a,xs,rfl,h,r⟩
theorem kB {ds:List Iw} {a:IS} {xs:List V} (h:SqL K F a xs) (r:RelL K F ds xs):Rel K F (.list ds) (.ref a):=by unfold Rel; exact ⟨a,xs,rfl,h,r⟩
theorem RelL.ints:∀ (ns:List Int),RelL K F (ns.map Jm) (ns.map V.int)
 | []=>.nil
 | _::r=>.cons c6 (RelL.ints r)
structure Gr (F H F' H':Hp):Prop where
 ff:Same F F'
 hh:Same H H'
 fh:Same F' H'
 new:∀ b,F' b≠none->F b≠none\/H b=none
theorem Gr.refl (h:Same F H):Gr F H F H:=⟨.refl _,.refl _,h,λ _ q=>.inl q⟩
theorem Gr.trans {F1 H1 F2 H2:Hp} (a:Gr F H F1 H1) (b:Gr F1 H1 F2 H2):Gr F H F2 H2 :=
 ⟨a.ff.trans b.ff,a.hh.trans b.hh,b.fh,λ c q=>(b.new c q).elim (λ q=>a.new c q) λ q=>.inr (a.hh.free q)⟩
theorem Gr.one {p:IS} {o:HO} (h:Same F H) (hp:H p=none):Gr F H (upd F p o) (upd H p o) where
 ff:=fu (h.free hp) o
 hh:=fu hp o
 fh:=λ b u q=>by
  by_cases e:b=p
  ·subst e; rw [aw] at q ⊢; exact q
  ·rw [am e] at q ⊢; exact h _ _ q
 new:=λ b q=>by
  by_cases e:b=p
  ·subst e; exact .inr hp
  ·rw [am e] at q; exact .inl q
end
inductive Sl where
 | un
 | val (d:Iw)
 | own (ds:List Iw)
 | odc (kvs:List (Key×Iw))
 | ob (fs:Str->Option Iw)
noncomputable abbrev En:=List Sl
noncomputable def j4:Sl->Bool
 | .own _=>true
 | .odc _=>true
 | _=>false
noncomputable def CellR (K:Iv) (F:Hp):Sl->HO->Prop
 | .own ds,o=>∃ xs,o=.lst xs/\RelL K F ds xs
 | .odc kvs,o=>∃ ks,o=.dK ks/\RelD K F (prs kvs) ks
 | _,_=>False
noncomputable def ObF (K:Iv) (C:IS) (F:Hp) (fs:Str->Option Iw) (xs:List (Str×V)):Prop:=∀ f d,fs f=some d->NoAttr K C f/\∃ v,xs.lookup f=some v/\Rel K F d v
structure EnR (K:Iv) (He F H:Hp) (σ:St) (η:En):Prop where
 len:η.length=σ.length
 val:∀ (i:Nat) d,η[i]?=some (.val d)->∃ v,σ[i]?=some (some v)/\Rel K F d v
 cel:∀ (i:Nat) sl,η[i]?=some sl->j4 sl=true->∃ p o,σ[i]?=some (some (.ref p))/\F p=none/\He p=none/\H p=some o/\CellR K F sl o
 apart:∀ (i j:Nat) a b,η[i]?=some a->η[j]?=some b->j4 a=true->j4 b=true->i≠j->σ[i]?≠σ[j]?
 obs:∀ (i:Nat) fs,η[i]?=some (.ob fs)->∃ p C dx xs,σ[i]?=some (some (.ref p))/\H p=some (.ins C dx xs)/\Cls K C/\ObF K C F fs xs
structure Bd where
 F:Hp
 H:Hp
structure SR (K:Iv) (B:Bd) (F H:Hp) (σ:St) (η:En):Prop where
 gr:Gr B.F B.H F H
 en:EnR K B.H F H σ η
section
variable {K:Iv} {B:Bd} {F H F' H':Hp} {σ:St} {η:En}
theorem CellR.mono (e:Same F F'):∀ {sl:Sl} {o:HO},CellR K F sl o->CellR K F' sl o
 | .own _,_,⟨xs,h1,h2⟩=>⟨xs,h1,h2.mono e⟩
 | .odc _,_,⟨xs,h1,h2⟩=>⟨xs,h1,h2.mono e⟩
 | .un,_,h=>h.elim
 | .val _,_,h=>h.elim
 | .ob _,_,h=>h.elim
theorem ObF.mono {C:IS} {fs:Str->Option Iw} {xs:List (Str×V)} (e:Same F F') (h:ObF K C F fs xs):ObF K C F' fs xs:=λ f d q=>let ⟨a,v,b,c⟩:=h f d q; ⟨a,v,b,c.mono e⟩
theorem CellR.noins {sl:Sl} {o:HO} (h:CellR K F sl o) (C dx:IS) (xs:List (Str×V)):o≠.ins C dx xs:=by
 cases sl with
 | own ds=>obtain ⟨ys,rfl,_⟩:=h; intro z; cases z
 | odc ds=>obtain ⟨ys,rfl,_⟩:=h; intro z; cases z
 | un=>exact h.elim
 | val _=>exact h.elim
 | ob _=>exact h.elim
theorem EnR.own {He:Hp} (r:EnR K He F H σ η) (i:Nat) (ds:List Iw) (e:η[i]?=some (.own ds)):∃ p xs,σ[i]?=some (some (.ref p))/\F p=none/\He p=none/\H p=some (.lst xs)/\RelL K F ds xs:=by
 obtain ⟨p,o,h1,h2,h3,h4,xs,rfl,h5⟩:=r.cel i _ e rfl;exact ⟨p,xs,h1,h2,h3,h4,h5⟩
theorem EnR.odc {He:Hp} (r:EnR K He F H σ η) (i:Nat) (kvs:List (Key×Iw)) (e:η[i]?=some (.odc kvs)):∃ p ks,σ[i]?=some (some (.ref p))/\F p=none/\He p=none/\H p=some (.dK ks)/\RelD K F (prs kvs) ks:=by
 obtain ⟨p,o,h1,h2,h3,h4,xs,rfl,h5⟩:=r.cel i _ e rfl;exact ⟨p,xs,h1,h2,h3,h4,h5⟩
theorem EnR.grow {He:Hp} (r:EnR K He F H σ η) (g:Gr F H F' H'):EnR K He F' H' σ η where
 len:=r.len
 val:=λ i d e=>let ⟨v,e1,e2⟩:=r.val i d e; ⟨v,e1,e2.mono g.ff⟩
 cel:=λ i sl e hs=>by
  obtain ⟨p,o,e1,e2,e3,e4,e5⟩:=r.cel i sl e hs;refine ⟨p,o,e1,?_,e3,g.hh _ _ e4,e5.mono g.ff⟩;cases q:F' p with
  | none=>rfl
  | some o =>
   rcases g.new p (by rw [q]; simp) with z | z
   ·exact absurd e2 z
   ·rw [e4] at z; cases z
 apart:=r.apart
 obs:=λ i fs e=>let ⟨p,C,dx,xs,e1,e2,e3,e4⟩:=r.obs i fs e; ⟨p,C,dx,xs,e1,g.hh _ _ e2,e3,e4.mono g.ff⟩
theorem SR.grow (r:SR K B F H σ η) (g:Gr F H F' H'):SR K B F' H' σ η:=⟨r.gr.trans g,r.en.grow g⟩
theorem SR.same (r:SR K B F H σ η):Same F H:=r.gr.fh
theorem EnR.set {He:Hp} (r:EnR K He F H σ η) (i:Nat) {d:Iw} {v:V} (h:Rel K F d v):EnR K He F H (σ.set i (some v)) (η.set i (.val d)) where
 len:=by rw [IZ,IZ]; exact r.len
 val:=λ j d' e=>by
  by_cases hj:i=j
  ·subst hj;by_cases hl:i < η.length
   ·rw [IH hl] at e;have e':d=d':=by injection (Option.some.inj e)
    subst e';exact ⟨v,by rw [IH (by rw [<- r.len]; exact hl)],h⟩
   ·rw [Ji (by rw [IZ]; omega)] at e; cases e
  ·rw [Iz hj] at e ⊢; exact r.val j d' e
 cel:=λ j sl e hs=>by
  by_cases hj:i=j
  ·subst hj;by_cases hl:i < η.length
   ·rw [IH hl] at e;have e':Sl.val d=sl:=Option.some.inj e;subst e';cases hs
   ·rw [Ji (by rw [IZ]; omega)] at e; cases e
  ·rw [Iz hj] at e ⊢; exact r.cel j sl e hs
 apart:=λ j k a b ej ek ha hb hjk=>by
  have no:∀ (j:Nat) a,(η.set i (.val d))[j]?=some a->j4 a=true->i≠j:=λ j a ej ha hj=>by
   subst hj;by_cases hl:i < η.length
   ·rw [IH hl] at ej;have e':Sl.val d=a:=Option.some.inj ej;subst e';cases ha
   ·rw [Ji (by rw [IZ]; omega)] at ej; cases ej
  have nj:=no j a ej ha;have nk:=no k b ek hb;rw [Iz nj] at ej ⊢;rw [Iz nk] at ek ⊢;exact r.apart j k a b ej ek ha hb hjk
 obs:=λ j fs e=>by
  by_cases hj:i=j
  ·subst hj;by_cases hl:i < η.length
   ·rw [IH hl] at e; cases e
   ·rw [Ji (by rw [IZ]; omega)] at e; cases e
  ·rw [Iz hj] at e ⊢; exact r.obs j fs e
theorem EnR.setCell {He:Hp} (r:EnR K He F H σ η) (i:Nat) {sl:Sl} {p:IS} {o:HO} (hsl:j4 sl=true) (h1:F p=none) (h2:He p=none) (h3:H p=some o) (h4:CellR K F sl o)
  (h5:∀ (j:Nat),σ[j]?=some (some (.ref p))->∀ a,η[j]?=some a->j4 a=false):EnR K He F H (σ.set i (some (.ref p))) (η.set i sl) where
 len:=by rw [IZ,IZ]; exact r.len
 val:=λ j d' e=>by
  by_cases hj:i=j
  ·subst hj;by_cases hl:i < η.length
   ·rw [IH hl] at e;have e':sl=.val d':=Option.some.inj e;subst e';cases hsl
   ·rw [Ji (by rw [IZ]; omega)] at e; cases e
  ·rw [Iz hj] at e ⊢; exact r.val j d' e
 cel:=λ j a e ha=>by
  by_cases hj:i=j
  ·subst hj;by_cases hl:i < η.length
   ·rw [IH hl] at e;have e':sl=a:=Option.some.inj e;subst e';exact ⟨p,o,by rw [IH (by rw [<- r.len]; exact hl)],h1,h2,h3,h4⟩
   ·rw [Ji (by rw [IZ]; omega)] at e; cases e
  ·rw [Iz hj] at e ⊢; exact r.cel j a e ha
 apart:=λ j k a b ej ek ha hb hjk=>by
  by_cases hj:i=j
  ·subst hj;have hl:i < η.length:=by
    by_cases hl:i < η.length
    ·exact hl
    ·rw [Ji (by rw [IZ]; omega)] at ej; cases ej
   rw [Iz hjk] at ek ⊢;rw [IH (by rw [<- r.len]; exact hl)];exact λ z=>by rw [h5 k z.symm b ek] at hb; cases hb
  ·by_cases hk:i=k
   ·subst hk;have hl:i < η.length:=by
     by_cases hl:i < η.length
     ·exact hl
     ·rw [Ji (by rw [IZ]; omega)] at ek; cases ek
    rw [Iz hj] at ej ⊢;rw [IH (by rw [<- r.len]; exact hl)];exact λ z=>by rw [h5 j z a ej] at ha; cases ha
   ·rw [Iz hj] at ej ⊢;rw [Iz hk] at ek ⊢;exact r.apart j k a b ej ek ha hb hjk
 obs:=λ j fs e=>by
  by_cases hj:i=j
  ·subst hj;by_cases hl:i < η.length
   ·rw [IH hl] at e;have e':sl=.ob fs:=Option.some.inj e;subst e';cases hsl
   ·rw [Ji (by rw [IZ]; omega)] at e; cases e
  ·rw [Iz hj] at e ⊢; exact r.obs j fs e
theorem EnR.setOwn {He:Hp} (r:EnR K He F H σ η) (i:Nat) {ds:List Iw} {p:IS} {xs:List V} (h1:F p=none) (h2:He p=none) (h3:H p=some (.lst xs)) (h4:RelL K F ds xs)
  (h5:∀ (j:Nat),σ[j]?=some (some (.ref p))->∀ a,η[j]?=some a->j4 a=false):EnR K He F H (σ.set i (some (.ref p))) (η.set i (.own ds)):=r.setCell i rfl h1 h2 h3 ⟨xs,rfl,h4⟩ h5
theorem EnR.notown {He:Hp} (r:EnR K He F H σ η) {p:IS} (h:H p=none):∀ (j:Nat),σ[j]?=some (some (.ref p))->∀ a,η[j]?=some a->j4 a=false:=λ j e a z=>by
 cases ha:j4 a with
 | false=>rfl
 | true =>
  obtain ⟨q,o,e1,_,_,e4,_⟩:=r.cel j a z ha;rw [e] at e1
  have:p=q:=by injection (Option.some.inj (Option.some.inj e1))
  rw [this,e4] at h; cases h
theorem EnR.putCell {He:Hp} (r:EnR K He F H σ η) {i:Nat} {sl sl':Sl} {p:IS} {o:HO} (hi:η[i]?=some sl) (hs:j4 sl=true) (hs':j4 sl'=true) (hσ:σ[i]?=some (some (.ref p))) (h4:CellR K F sl' o) :
  EnR K He F (upd H p o) σ (η.set i sl') where
 len:=by rw [IZ]; exact r.len
 val:=λ j d' e=>by
  by_cases hj:i=j
  ·subst hj;rw [IH (ID.mp hi).1] at e;have e':sl'=.val d':=Option.some.inj e;subst e';cases hs'
  ·rw [Iz hj] at e; exact r.val j d' e
 cel:=λ j a e ha=>by
  by_cases hj:i=j
  ·subst hj;rw [IH (ID.mp hi).1] at e;have e':sl'=a:=Option.some.inj e;subst e';obtain ⟨q,o1,e1,e2,e3,e4,e5⟩:=r.cel i sl hi hs;rw [hσ] at e1
   have:p=q:=by injection (Option.some.inj (Option.some.inj e1))
   subst this;exact ⟨p,o,hσ,e2,e3,aw,h4⟩
  ·rw [Iz hj] at e;obtain ⟨q,o1,e1,e2,e3,e4,e5⟩:=r.cel j a e ha;refine ⟨q,o1,e1,e2,e3,?_,e5⟩;rw [am]
   ·exact e4
   ·intro z;subst z;exact r.apart i j sl a hi e hs ha hj (by rw [hσ,e1])
 apart:=λ j k a b ej ek ha hb hjk=>by
  have aa:∀ (j:Nat) a,(η.set i sl')[j]?=some a->j4 a=true->∃ a',η[j]?=some a'/\j4 a'=true:=λ j a e ha=>by
   by_cases hj:i=j
   ·subst hj; exact ⟨sl,hi,hs⟩
   ·rw [Iz hj] at e; exact ⟨a,e,ha⟩
  obtain ⟨a',e1,f1⟩:=aa j a ej ha;obtain ⟨b',e2,f2⟩:=aa k b ek hb;exact r.apart j k a' b' e1 e2 f1 f2 hjk
 obs:=λ j fs e=>by
  by_cases hj:i=j
  ·subst hj;rw [IH (ID.mp hi).1] at e;have e':sl'=.ob fs:=Option.some.inj e;subst e';cases hs'
  ·rw [Iz hj] at e;obtain ⟨q,C,dx,xs,e1,e2,e3,e4⟩:=r.obs j fs e;refine ⟨q,C,dx,xs,e1,?_,e3,e4⟩;obtain ⟨p',o1,f1,_,_,f4,f5⟩:=r.cel i sl hi hs;rw [hσ] at f1
   have:p=p':=by injection (Option.some.inj (Option.some.inj f1))
   subst this;rw [am]
   ·exact e2
   ·intro z;subst z;rw [f4] at e2;exact f5.noins _ _ _ (Option.some.inj e2)
theorem EnR.putOwn {He:Hp} (r:EnR K He F H σ η) {i:Nat} {ds es:List Iw} {p:IS} {ys:List V} (hi:η[i]?=some (.own ds)) (hσ:σ[i]?=some (some (.ref p))) (h4:RelL K F es ys) :
  EnR K He F (upd H p (.lst ys)) σ (η.set i (.own es)):=r.putCell hi rfl rfl hσ ⟨ys,rfl,h4⟩
theorem SR.freezeCell (r:SR K B F H σ η) {i:Nat} {sl:Sl} {d:Iw} {p:IS} {o:HO} (hi:η[i]?=some sl) (hs:j4 sl=true) (e1:σ[i]?=some (some (.ref p))) (e2:F p=none) (e3:B.H p=none) (e4:H p=some o) (rel:Rel K (upd F p o) d (.ref p)) :
  Same F (upd F p o)/\SR K B (upd F p o) H σ (η.set i (.val d)):=by
 have sn:=fu (H:=F) e2 o;refine ⟨sn,⟨⟨r.gr.ff.trans sn,r.gr.hh,?_,?_⟩,?_⟩⟩
 ·intro b u q;by_cases e:b=p
  ·subst e; rw [aw] at q; rw [<- q]; exact e4
  ·rw [am e] at q; exact r.gr.fh _ _ q
 ·intro b q;by_cases e:b=p
  ·subst e; exact .inr e3
  ·rw [am e] at q; exact r.gr.new b q
 ·refine ⟨by rw [IZ]; exact r.en.len,λ j d' e=>?_,λ j a e ha=>?_,λ j k a b ej ek ha hb hjk=>?_,λ j fs e=>?_⟩
  ·by_cases hj:i=j
   ·subst hj;rw [IH (ID.mp hi).1] at e;have e':d=d':=by injection (Option.some.inj e)
    subst e';exact ⟨_,e1,rel⟩
   ·rw [Iz hj] at e;obtain ⟨v,q1,q2⟩:=r.en.val j d' e;exact ⟨v,q1,q2.mono sn⟩
  ·by_cases hj:i=j
   ·subst hj;rw [IH (ID.mp hi).1] at e;have e':Sl.val d=a:=Option.some.inj e;subst e';cases ha
   ·rw [Iz hj] at e;obtain ⟨q,o1,q1,q2,q3,q4,q5⟩:=r.en.cel j a e ha;refine ⟨q,o1,q1,?_,q3,q4,q5.mono sn⟩;rw [am]
    ·exact q2
    ·intro z;subst z;exact r.en.apart i j sl a hi e hs ha hj (by rw [e1,q1])
  ·have no:∀ (j:Nat) a,(η.set i (.val d))[j]?=some a->j4 a=true->i≠j:=λ j a ej ha hj=>by
    subst hj;rw [IH (ID.mp hi).1] at ej;have e':Sl.val d=a:=Option.some.inj ej;subst e';cases ha
   have nj:=no j a ej ha;have nk:=no k b ek hb;rw [Iz nj] at ej;rw [Iz nk] at ek;exact r.en.apart j k a b ej ek ha hb hjk
  ·by_cases hj:i=j
   ·subst hj;rw [IH (ID.mp hi).1] at e; cases e
   ·rw [Iz hj] at e;obtain ⟨q,C,dx,xs,q1,q2,q3,q4⟩:=r.en.obs j fs e;exact ⟨q,C,dx,xs,q1,q2,q3,q4.mono sn⟩
theorem SR.freeze (r:SR K B F H σ η) {i:Nat} {ds:List Iw} (hi:η[i]?=some (.own ds)):∃ F' p,σ[i]?=some (some (.ref p))/\Same F F'/\SR K B F' H σ (η.set i (.val (.list ds)))/\Rel K F' (.list ds) (.ref p):=by
 obtain ⟨p,xs,e1,e2,e3,e4,e5⟩:=r.en.own i ds hi;have rel:Rel K (upd F p (.lst xs)) (.list ds) (.ref p):=kB (SqL.of aw) (e5.mono (fu (H:=F) e2 (.lst xs)));obtain ⟨h1,h2⟩:=r.freezeCell hi rfl e1 e2 e3 e4 rel;exact ⟨_,p,e1,h1,h2,rel⟩
theorem SR.freezeD (r:SR K B F H σ η) {i:Nat} {kvs:List (Key×Iw)} (hi:η[i]?=some (.odc kvs)):∃ F' p,σ[i]?=some (some (.ref p))/\Same F F'/\SR K B F' H σ (η.set i (.val (.dict (prs kvs))))/\Rel K F' (.dict (prs kvs)) (.ref p):=by
 obtain ⟨p,ks,e1,e2,e3,e4,e5⟩:=r.en.odc i kvs hi;have rel:Rel K (upd F p (.dK ks)) (.dict (prs kvs)) (.ref p):=zL (.inl aw) (e5.mono (fu (H:=F) e2 (.dK ks)));obtain ⟨h1,h2⟩:=r.freezeCell hi rfl e1 e2 e3 e4 rel;exact ⟨_,p,e1,h1,h2,rel⟩
end
section
variable (K:Iv) (B:Bd)
noncomputable def tE (f:En->Option Iw):TE:=λ σ H Q=>∃ F η d,SR K B F H σ η/\f η=some d/\∀ v F' H',Gr F H F' H'->Rel K F' d v->Q v H'
noncomputable def tO (f:En->Option (List Iw)):TE:=λ σ H Q=>∃ F η ds,SR K B F H σ η/\f η=some ds/\∀ p xs F' H',Gr F H F' H'->H p=none->F' p=none->H' p=some (.lst xs)->RelL K F' ds xs->Q (.ref p) H'
noncomputable def tT (f:En->Option Bool):TT:=λ σ H Q=>∃ F η b,SR K B F H σ η/\f η=some b/\∀ F' H',Gr F H F' H'->Q b H'
noncomputable def tA (f:En->Option (List Iw)):TA:=λ σ H Q=>∃ F η ds,SR K B F H σ η/\f η=some ds/\∀ vs F' H',Gr F H F' H'->RelL K F' ds vs->Q vs H'
end
noncomputable def E (X:Cx) (B:Bd) (e:Expr) (f:En->Option Iw):Prop:=PE X e (tE X.K B f)
noncomputable def EO (X:Cx) (B:Bd) (e:Expr) (f:En->Option (List Iw)):Prop:=PE X e (tO X.K B f)
noncomputable def T (X:Cx) (B:Bd) (e:Expr) (f:En->Option Bool):Prop:=PT X e (tT X.K B f)
noncomputable def TW (X:Cx) (B:Bd) (e:Expr) (f:En->Option Bool):Prop:=PW X e (tT X.K B f)
noncomputable def A (X:Cx) (B:Bd) (es:List Expr) (f:En->Option (List Iw)):Prop:=PA X es (tA X.K B f)
theorem PE.imp {X:Cx} {e:Expr} {t t':TE} (h:PE X e t) (i:∀ σ H Q,t' σ H Q->t σ H Q):PE X e t':=λ pins s σ H Q I q=>h pins s σ H Q I (i σ H Q q)
theorem PT.imp {X:Cx} {e:Expr} {t t':TT} (h:PT X e t) (i:∀ σ H Q,t' σ H Q->t σ H Q):PT X e t':=λ pins s σ H Q I q=>h pins s σ H Q I (i σ H Q q)
theorem PW.imp {X:Cx} {e:Expr} {t t':TT} (h:PW X e t) (i:∀ σ H Q,t' σ H Q->t σ H Q):PW X e t':=λ wh pins s σ H Q I q=>h wh pins s σ H Q I (i σ H Q q)
theorem PA.imp {X:Cx} {e:List Expr} {t t':TA} (h:PA X e t) (i:∀ σ H Q,t' σ H Q->t σ H Q):PA X e t':=λ pos pins s σ H Q I q=>h pos pins s σ H Q I (i σ H Q q)
noncomputable def eV (i:Nat):En->Option Iw:=λ η=>match η[i]? with | some (.val d)=>some d | _=>none
noncomputable def eC (d:Iw):En->Option Iw:=λ _=>some d
noncomputable def l1 (o:Iw->Option Iw) (f:En->Option Iw):En->Option Iw:=λ η=>(f η).bind o
noncomputable def l2 (o:Iw->Iw->Option Iw) (f g:En->Option Iw):En->Option Iw:=λ η=>(f η).bind λ x=>(g η).bind λ y=>o x y
noncomputable def aN:En->Option (List Iw):=λ _=>some []
noncomputable def aC (f:En->Option Iw) (g:En->Option (List Iw)):En->Option (List Iw):=λ η=>(f η).bind λ x=>(g η).bind λ xs=>some (x::xs)
noncomputable def lA (o:List Iw->Option Iw) (f:En->Option (List Iw)):En->Option Iw:=λ η=>(f η).bind o
section
variable {X:Cx} {B:Bd} {a b c e:Expr} {es:List Expr} {f g h:En->Option Iw} {fs:En->Option (List Iw)} {pos:Pos}
theorem ab {α β:Type} {o:Option α} {k:α->Option β} {y:β} (h:o.bind k=some y):∃ x,o=some x/\k x=some y:=by
 cases o with
 | none=>cases h
 | some x=>exact ⟨x,rfl,h⟩
noncomputable def Ad2 (K:Iv) (r:R2) (o:Iw->Iw->Option Iw):Prop :=
 ∀ F H x y dx dy d Q,Same F H->Rel K F dx x->Rel K F dy y->o dx dy=some d->(∀ v F' H',Gr F H F' H'->Rel K F' d v->Q v H')->r x y H Q
theorem t2 {K:Iv} {r:R2} {o:Iw->Iw->Option Iw} (ad:Ad2 K r o):∀ σ H Q,tE K B (l2 o f g) σ H Q->tOp r (tE K B f) (tE K B g) σ H Q:=by
 intro σ H Q ⟨F,η,d,sr,hd,q⟩;obtain ⟨x,hx,hd⟩:=ab hd;obtain ⟨y,hy,hd⟩:=ab hd;refine ⟨F,η,x,sr,hx,λ v F1 H1 g1 rv=>⟨F1,η,y,sr.grow g1,hy,λ u F2 H2 g2 ru=>?_⟩⟩;exact ad F2 H2 v u x y d Q g2.fh (rv.mono g2.ff) ru hd λ w F3 H3 g3 rw'=>q w F3 H3 ((g1.trans g2).trans g3) rw'
theorem E.op {op:Operator} {r:R2} {o:Iw->Iw->Option Iw} (ho:OpR X (binaryOp op) r) (ad:Ad2 X.K r o) (ha:E X B a f) (hb:E X B b g):E X B (.BinOp a op b pos) (l2 o f g) :=
 PE.imp (EM ho ha hb) (t2 ad)
theorem E.cmp {op:CmpOp} {r:R2} {o:Iw->Iw->Option Iw} (ho:OpR X (JG op) r) (ad:Ad2 X.K r o) (hm:Jz op b=false) (ha:E X B a f) (hb:E X B b g):E X B (.Compare a [op] [b] pos) (l2 o f g) :=
 PE.imp (zR ho ha hb hm) (t2 ad)
theorem E.ix {r:R2} {o:Iw->Iw->Option Iw} (hr:IxR X r) (ad:Ad2 X.K r o) (ha:E X B a f) (hb:E X B b g) (hs:qa b:=by intro _ _; rfl):E X B (.Subscript a b pos) (l2 o f g) :=
 PE.imp (BJ hr ha hb hs) (t2 ad)
theorem au (i:Nat) {x:Str} (hN:X.N[i]?=some x:=by rfl) (hv:Vis X.env.scope x:=by first | exact Or.inl rfl | exact Or.inr (Or.inl rfl) | exact Or.inr (Or.inr rfl)) (hd:(x==("__debug__" : Str))=false:=by decide)
  (hcd:(x==("__classdict__" : Str))=false:=by decide):E X B (.Name x pos) (eV i) :=
 PE.imp (qM hN hv hd hcd) λ σ H Q ⟨F,η,d,sr,hd,q⟩=>by
  unfold eV at hd;split at hd
  ·rename_i d' e;cases hd;obtain ⟨v,e1,e2⟩:=sr.en.val i d e;exact ⟨v,e1,q v F H (.refl sr.same) e2⟩
  ·cases hd
theorem xF {K:Iv} {v:V} {d:Iw} (h:∀ F,Rel K F d v):∀ σ H Q,tE K B (eC d) σ H Q->tC v σ H Q:=λ σ H Q ⟨F,η,d',sr,hd,q⟩=>by
 have e:d=d':=Option.some.inj hd;subst e;exact q v F H (.refl sr.same) (h F)
theorem aF {i:Int} {j}:E X B (.Constant (.int i) j pos) (eC (.int i)):=PE.imp FF (xF λ _=>c6)
theorem tq {i:Bool} {j}:E X B (.Constant (.bool i) j pos) (eC (.bool i)):=PE.imp GY (xF λ _=>gz)
theorem nZ {j}:E X B (.Constant .none j pos) (eC .none):=PE.imp FE (xF λ _=>p6)
theorem fZ {i:Str} {j}:E X B (.Constant (.str i) j pos) (eC (.str i)):=PE.imp FC (xF λ _=>n5)
theorem E.glob {x:Str} {v:V} {u:IE} {d:Iw} (hm:X.mg x=some u) (r:RelV v u) (h:∀ F,Rel X.K F d v) (hg:Gl X x:=by rfl) (hd:(x==("__debug__" : Str))=false:=by decide):E X B (.Name x pos) (eC d) :=
 PE.imp (Dz hg hm r hd) (xF h)
theorem ak:A X B [] aN:=PA.imp BQ λ σ H Q ⟨F,η,d,sr,hd,q⟩=>by
 cases hd;exact q [] F H (.refl sr.same) .nil
theorem ac (ha:E X B e f) (hr:A X B es fs) (hs:II (e::es) X.env=(false,eval e X.env)::II es X.env:=by exact cg rfl):A X B (e::es) (aC f fs):=PA.imp (zU ha hr hs) λ σ H Q ⟨F,η,d,sr,hd,q⟩=>by
 obtain ⟨x,hx,hd⟩:=ab hd;obtain ⟨y,hy,hd⟩:=ab hd;cases hd;exact ⟨F,η,x,sr,hx,λ v F1 H1 g1 rv=>⟨F1,η,y,sr.grow g1,hy,λ vs F2 H2 g2 rs=>q (v::vs) F2 H2 (g1.trans g2) (.cons (rv.mono g2.ff) rs)⟩⟩
noncomputable def gL (ds:List Iw):Option (List Iw):=if ds.length<=IB then some ds else none
theorem g7 {x1} (hs:A X B es fs):E X B (.Tuple es x1 pos) (lA (λ ds=>if ds.length<=IB then some (.tuple ds) else none) fs):=PE.imp (BD hs) λ σ H Q ⟨F,η,d,sr,hd,q⟩=>by
 obtain ⟨ds,hx,hd⟩:=ab hd;split at hd
 ·rename_i hl;cases hd;refine ⟨F,η,ds,sr,hx,λ vs F1 H1 g1 rs=>⟨by rw [rs.length]; exact hl,λ p hp=>?_⟩⟩;have g2:Gr F1 H1 (upd F1 p (.tup vs)) (upd H1 p (.tup vs)):=Gr.one g1.fh hp;exact q _ _ _ (g1.trans g2) (iD (SqT.of aw) (rs.mono g2.ff))
 ·cases hd
theorem ce (hs:A X B es fs):EO X B (.List es pos) (λ η=>(fs η).bind gL):=PE.imp (BI hs) λ σ H Q ⟨F,η,ds,sr,hd,q⟩=>by
 obtain ⟨ds',hx,hd⟩:=ab hd;unfold gL at hd;split at hd
 ·rename_i hl;cases hd;refine ⟨F,η,ds,sr,hx,λ vs F1 H1 g1 rs=>⟨by rw [rs.length]; exact hl,λ p hp=>?_⟩⟩;refine q p vs F1 (upd H1 p (.lst vs)) ?_ (g1.hh.free hp) (g1.fh.free hp) aw rs;refine ⟨g1.ff,g1.hh.trans (fu hp _),λ b u z=>?_,g1.new⟩;exact fu hp _ b u (g1.fh b u z)
 ·cases hd
noncomputable def oE (f:En->Option (List Iw)):En->Option Iw:=λ η=>(f η).bind λ ds=>some (.list ds)
theorem bm (he:EO X B e fs):E X B e (oE fs):=PE.imp he λ σ H Q ⟨F,η,d,sr,hd,q⟩=>by
 obtain ⟨ds,hx,hd⟩:=ab hd;cases hd;refine ⟨F,η,ds,sr,hx,λ p xs F' H' g1 hp fp hp' rs=>?_⟩;have sn:=fu (H:=F') fp (.lst xs);refine q (.ref p) (upd F' p (.lst xs)) H' ⟨g1.ff.trans sn,g1.hh,λ b u z=>?_,λ b z=>?_⟩ (kB (SqL.of aw) (rs.mono sn))
 ·by_cases e:b=p
  ·subst e; rw [aw] at z; rw [<- z]; exact hp'
  ·rw [am e] at z; exact g1.fh _ _ z
 ·by_cases e:b=p
  ·subst e; exact .inr hp
  ·rw [am e] at z; exact g1.new b z
noncomputable def asB:Iw->Option Bool
 | .bool b=>some b
 | _=>none
noncomputable def bT (f:En->Option Iw):En->Option Bool:=λ η=>(f η).bind asB
theorem mz {d:Iw} {b:Bool} (h:asB d=some b):d=.bool b:=by
 cases d <;> simp [asB] at h;rw [h]
theorem pV (he:E X B e f) (hi:∀ whole,isTrue e X.env whole=(do let v <- whole; standAt e.pos; holding [v] (truthy v)):=by intro _; rfl):T X B e (bT f):=PT.imp (Bw he hi) λ σ H Q ⟨F,η,b,sr,hd,q⟩=>by
 obtain ⟨x,hx,hd⟩:=ab hd;obtain rfl:=mz hd;exact ⟨F,η,_,sr,hx,λ v F1 H1 g1 rv=>⟨b,rv.bl,q F1 H1 g1⟩⟩
theorem T.cmp {op:CmpOp} {r:R2} {o:Iw->Iw->Option Iw} (ho:OpR X (JG op) r) (ad:Ad2 X.K r o) (hm:Jz op b=false) (ha:E X B a f) (hb:E X B b g):T X B (.Compare a [op] [b] pos) (bT (l2 o f g)) :=
 PT.imp (Dt ho ha hb hm) λ σ H Q ⟨F,η,b,sr,hd,q⟩=>by
  obtain ⟨x,hx,hd⟩:=ab hd;obtain rfl:=mz hd;exact t2 ad σ H _ ⟨F,η,_,sr,hx,λ v F1 H1 g1 rv=>⟨b,rv.bl,q F1 H1 g1⟩⟩
noncomputable def lch (o o':Iw->Iw->Option Iw) (f g h:En->Option Iw):En->Option Iw:=λ η=>(f η).bind λ x=>(g η).bind λ y=>(o x y).bind λ z=>(asB z).bind λ k =>
 if k=true then (h η).bind λ w=>o' y w else some (.bool false)
theorem E.chain {op op':CmpOp} {r r':R2} {o o':Iw->Iw->Option Iw} (ho:OpR X (JG op) r) (ad:Ad2 X.K r o) (ho':OpR X (JG op') r') (ad':Ad2 X.K r' o') (ha:E X B a f) (hb:E X B b g) (hc:E X B c h)
  (hm:lastMarks [op,op'] [b,c]=false:=by with_unfolding_all rfl):E X B (.Compare a [op,op'] [b,c] pos) (lch o o' f g h):=PE.imp (BN ho ho' ha hb hc hm) λ σ H Q ⟨F,η,d,sr,hd,q⟩=>by
 obtain ⟨x,hx,hd⟩:=ab hd;obtain ⟨y,hy,hd⟩:=ab hd;obtain ⟨z,hz,hd⟩:=ab hd;obtain ⟨k,hk,hd2⟩:=ab hd;clear hd;obtain rfl:=mz hk;have hd:=hd2;refine ⟨F,η,x,sr,hx,λ v F1 H1 g1 rv=>⟨F1,η,y,sr.grow g1,hy,λ u F2 H2 g2 ru=>?_⟩⟩;refine ad F2 H2 v u x y _ _ g2.fh (rv.mono g2.ff) ru hz λ w F3 H3 g3 rw'=>⟨k,rw'.bl,?_⟩;cases k with
 | false =>
  rw [if_neg IT] at hd ⊢;cases hd;exact q _ F3 H3 ((g1.trans g2).trans g3) gz
 | true =>
  rw [if_pos rfl] at hd ⊢;obtain ⟨w2,hw2,hd⟩:=ab hd;refine ⟨F3,η,w2,(sr.grow (g1.trans g2)).grow g3,hw2,λ t F4 H4 g4 rt=>?_⟩;exact ad' F4 H4 u t y w2 d Q g4.fh (ru.mono (g3.ff.trans g4.ff)) rt hd λ w5 F5 H5 g5 r5=>q w5 F5 H5 (((g1.trans g2).trans g3).trans (g4.trans g5)) r5
noncomputable def v4 (f g:En->Option Bool):En->Option Bool:=λ η=>(f η).bind λ c=>if c=true then g η else some false
noncomputable def bOr (f g:En->Option Bool):En->Option Bool:=λ η=>(f η).bind λ c=>if c=true then some true else g η
noncomputable def v0 (f:En->Option Bool):En->Option Bool:=λ η=>(f η).bind λ c=>some (!c)
variable {p q r:En->Option Bool} {rest:List Expr}
theorem T.not (ha:T X B a p):T X B (.UnaryOp .Not a pos) (v0 p):=PT.imp (Fx ha) λ σ H Q ⟨F,η,b,sr,hd,q⟩=>by
 obtain ⟨x,hx,hd⟩:=ab hd;cases hd;exact ⟨F,η,x,sr,hx,q⟩
theorem TW.t (h:TW X B a p):T X B a p:=PW.pt h
theorem TW.and1 (ha:T X B a p):TW X B (.BoolOp .And [a] pos) p:=pw_and1 ha
theorem TW.or1 (ha:T X B a p):TW X B (.BoolOp .Or [a] pos) p:=pw_or1 ha
theorem TW.and (ha:T X B a p) (hb:TW X B (.BoolOp .And (b::rest) pos) q):TW X B (.BoolOp .And (a::b::rest) pos) (v4 p q):=PW.imp (pw_and ha hb) λ σ H Q ⟨F,η,b,sr,hd,k⟩=>by
 obtain ⟨x,hx,hd⟩:=ab hd;refine ⟨F,η,x,sr,hx,λ F1 H1 g1=>?_⟩;cases x with
 | false =>
  rw [if_neg IT] at hd ⊢;cases hd;exact k F1 H1 g1
 | true =>
  rw [if_pos rfl] at hd ⊢;exact ⟨F1,η,b,sr.grow g1,hd,λ F2 H2 g2=>k F2 H2 (g1.trans g2)⟩
theorem TW.or (ha:T X B a p) (hb:TW X B (.BoolOp .Or (b::rest) pos) q):TW X B (.BoolOp .Or (a::b::rest) pos) (bOr p q):=PW.imp (pw_or ha hb) λ σ H Q ⟨F,η,b,sr,hd,k⟩=>by
 obtain ⟨x,hx,hd⟩:=ab hd;refine ⟨F,η,x,sr,hx,λ F1 H1 g1=>?_⟩;cases x with
 | false =>
  rw [if_neg IT] at hd ⊢;exact ⟨F1,η,b,sr.grow g1,hd,λ F2 H2 g2=>k F2 H2 (g1.trans g2)⟩
 | true =>
  rw [if_pos rfl] at hd ⊢;cases hd;exact k F1 H1 g1
noncomputable def qK (f g:En->Option Iw):En->Option Iw:=λ η=>(f η).bind λ x=>(asB x).bind λ c=>if c=true then g η else some (.bool false)
noncomputable def Au (f:En->Option Iw):En->Option Iw:=λ η=>(f η).bind λ x=>(asB x).bind λ c=>some (.bool (!c))
theorem E.one {op} (ha:E X B a f):E X B (.BoolOp op [a] pos) f:=BF ha
theorem E.and (ha:E X B a f) (hb:E X B (.BoolOp .And (b::rest) pos) g):E X B (.BoolOp .And (a::b::rest) pos) (qK f g):=PE.imp (BP ha hb) λ σ H Q ⟨F,η,b,sr,hd,k⟩=>by
 obtain ⟨x,hx,hd⟩:=ab hd;obtain ⟨c,hc,hd2⟩:=ab hd;clear hd;obtain rfl:=mz hc;have hd:=hd2;refine ⟨F,η,_,sr,hx,λ v F1 H1 g1 rv=>⟨c,rv.bl,?_⟩⟩;cases c with
 | false =>
  rw [if_neg IT] at hd ⊢;cases hd;exact k _ F1 H1 g1 gz
 | true =>
  rw [if_pos rfl] at hd ⊢;exact ⟨F1,η,b,sr.grow g1,hd,λ u F2 H2 g2=>k u F2 H2 (g1.trans g2)⟩
theorem E.not (ha:E X B a f):E X B (.UnaryOp .Not a pos) (Au f):=PE.imp (FD ha) λ σ H Q ⟨F,η,b,sr,hd,k⟩=>by
 obtain ⟨x,hx,hd⟩:=ab hd;obtain ⟨c,hc,hd2⟩:=ab hd;clear hd;obtain rfl:=mz hc;have hd:=hd2;cases hd;exact ⟨F,η,_,sr,hx,λ v F1 H1 g1 rv=>⟨c,rv.bl,k _ F1 H1 g1 gz⟩⟩
noncomputable def vIf (c:En->Option Bool) (f g:En->Option Iw):En->Option Iw:=λ η=>(c η).bind λ c=>if c=true then f η else g η
theorem E.ifE (hc:T X B c p) (ha:E X B a f) (hb:E X B b g):E X B (.IfExp c a b pos) (vIf p f g):=PE.imp (xR hc ha hb) λ σ H Q ⟨F,η,d,sr,hd,k⟩=>by
 obtain ⟨x,hx,hd⟩:=ab hd;refine ⟨F,η,x,sr,hx,λ F1 H1 g1=>?_⟩;cases x with
 | false =>
  rw [if_neg IT] at hd ⊢;exact ⟨F1,η,d,sr.grow g1,hd,λ u F2 H2 g2=>k u F2 H2 (g1.trans g2)⟩
 | true =>
  rw [if_pos rfl] at hd ⊢;exact ⟨F1,η,d,sr.grow g1,hd,λ u F2 H2 g2=>k u F2 H2 (g1.trans g2)⟩
noncomputable def spP (K:Iv) (fn:List Iw->Option Iw):Sp:=λ vs H Q _=>∃ F ds d,Same F H/\RelL K F ds vs/\fn ds=some d/\∀ v F' H',Gr F H F' H'->Rel K F' d v->Q v H'
theorem aV {k k':Nat} {fa:IS} {fd:Jx} {ps:List Str} {x:Str} {ppos:Pos} {fn:List Iw->Option Iw} (G:FnOk X.prog X.w X.K X.mg X.base CX0 k fa fd ps (spP X.K fn)) (hr:Room k' X.A) (hkk:k<=k') (hm:X.mg x=some (.ref fa)) (hk:JU X.K (.ref fa)=true) (hb:Binds X.K fd ps [])
  (ha:A X B (e::es) fs) (hg:Gl X x:=by rfl) (hdb:(x==("__debug__" : Str))=false:=by decide) (he:II (e::es) X.env=(false,eval e X.env)::II es X.env:=by exact cg rfl) (hpl:(backTo pos (II es X.env)).any (·.1)=false:=by exact jE rfl) :
  E X B (.Call (.Name x ppos) (e::es) [] pos) (lA fn fs):=PE.imp (wN G (hr.mono hkk) hg hm hk hb .nil uN ha hdb he hpl) λ σ H Q ⟨F,η,d,sr,hd,q⟩=>by
 obtain ⟨ds,hx,hd⟩:=ab hd;refine ⟨F,η,ds,sr,hx,λ vs F1 H1 g1 rs=>?_⟩;show spP X.K fn (vs++[]) H1 Q E0;rw [JB];exact ⟨F1,ds,d,g1.fh,rs,hd,λ v F2 H2 g2 rv=>q v F2 H2 (g1.trans g2) rv⟩
end
inductive Out where
 | nx (η:En)
 | rt (d:Iw)
 | bk (η:En)
 | ct (η:En)
noncomputable def OutOk (K:Iv) (B:Bd) (F:Hp) (D:Ends):Out->Prop
 | .nx η=>∀ σ' F' H',SR K B F' H' σ' η->Same F F'->D.nx σ' H'
 | .rt d=>∀ v F' H',Gr B.F B.H F' H'->Rel K F' d v->D.rt v H'
 | .bk η=>∀ σ' F' H',SR K B F' H' σ' η->Same F F'->D.bk σ' H'
 | .ct η=>∀ σ' F' H',SR K B F' H' σ' η->Same F F'->D.ct σ' H'
noncomputable def tS (K:Iv) (B:Bd) (f:En->Option Out):TS:=λ D σ H=>∃ F η o,SR K B F H σ η/\f η=some o/\OutOk K B F D o
noncomputable def S (X:Cx) (B:Bd) (st:Stmt) (f:En->Option Out):Prop:=PS X st (tS X.K B f)
noncomputable def Ss (X:Cx) (B:Bd) (st:List Stmt) (f:En->Option Out):Prop:=PSs X st (tS X.K B f)
theorem PS.imp {X:Cx} {e:Stmt} {t t':TS} (h:PS X e t) (i:∀ D σ H,t' D σ H->t D σ H):PS X e t':=λ pins s σ H D I q=>h pins s σ H D I (i D σ H q)
theorem PSs.imp {X:Cx} {e:List Stmt} {t t':TS} (h:PSs X e t) (i:∀ D σ H,t' D σ H->t D σ H):PSs X e t':=λ pins s σ H D I q=>h pins s σ H D I (i D σ H q)
theorem OutOk.up {K:Iv} {B:Bd} {F F1:Hp} {D:Ends} {o:Out} (h:OutOk K B F D o) (s:Same F F1):OutOk K B F1 D o:=by
 cases o with
 | nx η=>exact λ σ' F' H' r e=>h σ' F' H' r (s.trans e)
 | rt d=>exact h
 | bk η=>exact λ σ' F' H' r e=>h σ' F' H' r (s.trans e)
 | ct η=>exact λ σ' F' H' r e=>h σ' F' H' r (s.trans e)
noncomputable def sNx:En->Option Out:=λ η=>some (.nx η)
noncomputable def c9 (f g:En->Option Out):En->Option Out:=λ η=>(f η).bind λ o=>match o with
 | .nx η'=>g η'
 | o=>some o
noncomputable def ic (f:En->Option Iw):En->Option Out:=λ η=>(f η).bind λ d=>some (.rt d)
noncomputable def xM (i:Nat):En->Option Out:=λ η=>match η[i]? with | some (.own ds)=>some (.rt (.list ds)) | _=>none
noncomputable def sIf (c:En->Option Bool) (f g:En->Option Out):En->Option Out:=λ η=>(c η).bind λ b=>if b=true then f η else g η
noncomputable def hE (i:Nat) (f:En->Option Iw):En->Option Out:=λ η=>(f η).bind λ d=>some (.nx (η.set i (.val d)))
noncomputable def lh (i:Nat) (f:En->Option (List Iw)):En->Option Out:=λ η=>(f η).bind λ ds=>some (.nx (η.set i (.own ds)))
noncomputable def Bq (i:Nat) (f:En->Option Iw):En->Option Out:=λ η=>(f η).bind λ d=>match η[i]? with
 | some (.own ds)=>if ds.length < IB then some (.nx (η.set i (.own (ds++[d])))) else none
 | _=>none
noncomputable def uI (i:Nat) (f:En->Option (List Iw)):En->Option Out:=λ η=>(f η).bind λ es=>match η[i]? with
 | some (.own ds)=>if ds.length+es.length<=IB then some (.nx (η.set i (.own (ds++es)))) else none
 | _=>none
noncomputable def frz (i:Nat) (η:En):En:=match η[i]? with | some (.own ds)=>η.set i (.val (.list ds)) | some (.odc kvs)=>η.set i (.val (.dict (prs kvs))) | _=>η
section
variable {X:Cx} {B:Bd} {st:Stmt} {sts sts':List Stmt} {u v:En->Option Out} {a b c e:Expr} {f g:En->Option Iw} {fs:En->Option (List Iw)} {p:En->Option Bool} {pos pos':Pos}
theorem Ss.nil:Ss X B [] sNx:=PSs.imp zP λ D σ H ⟨F,η,o,sr,hd,q⟩=>by
 cases hd;exact q σ F H sr (.refl _)
theorem bL (h:S X B st u):Ss X B [st] u:=zO h
theorem ba (h:S X B st u) (k:Ss X B sts v):Ss X B (st::sts) (c9 u v):=PSs.imp (xP h k) λ D σ H ⟨F,η,o,sr,hd,q⟩=>by
 obtain ⟨o1,h1,hd⟩:=ab hd;refine ⟨F,η,o1,sr,h1,?_⟩;cases o1 with
 | nx η'=>exact λ σ' F' H' r e=>⟨F',η',o,r,hd,q.up e⟩
 | rt d=>cases hd; exact q
 | bk η'=>cases hd; exact q
 | ct η'=>cases hd; exact q
theorem S.never:S X B st (λ _=>none):=PS.imp xQ λ D σ H ⟨F,η,o,sr,hd,q⟩=>by cases hd
theorem jx (he:E X B e f):S X B (.Return (some e) pos) (ic f):=PS.imp (yS he) λ D σ H ⟨F,η,o,sr,hd,q⟩=>by
 obtain ⟨d,h1,hd⟩:=ab hd;cases hd;exact ⟨F,η,d,sr,h1,λ v F' H' g rv=>q v F' H' (sr.gr.trans g) rv⟩
theorem S.retO (i:Nat) {x:Str} (hN:X.N[i]?=some x:=by rfl) (hv:Vis X.env.scope x:=by first | exact Or.inl rfl | exact Or.inr (Or.inl rfl) | exact Or.inr (Or.inr rfl)) (hd:(x==("__debug__" : Str))=false:=by decide)
  (hcd:(x==("__classdict__" : Str))=false:=by decide):S X B (.Return (some (.Name x pos')) pos) (xM i):=PS.imp (yS (qM hN hv hd hcd)) λ D σ H ⟨F,η,o,sr,hd,q⟩=>by
 unfold xM at hd;split at hd
 ·rename_i ds e;cases hd;obtain ⟨F',p,e1,sf,sr',rel⟩:=sr.freeze e;exact ⟨_,e1,q _ F' H sr'.gr rel⟩
 ·cases hd
theorem S.ifS (hc:T X B c p) (ha:Ss X B sts u) (hb:Ss X B sts' v):S X B (.If c sts sts' pos) (sIf p u v):=PS.imp (EL hc ha hb) λ D σ H ⟨F,η,o,sr,hd,q⟩=>by
 obtain ⟨b,h1,hd⟩:=ab hd;refine ⟨F,η,b,sr,h1,λ F1 H1 g1=>?_⟩;cases b with
 | false =>
  rw [if_neg IT] at hd ⊢;exact ⟨F1,η,o,sr.grow g1,hd,q.up g1.ff⟩
 | true =>
  rw [if_pos rfl] at hd ⊢;exact ⟨F1,η,o,sr.grow g1,hd,q.up g1.ff⟩
theorem Gg {K:Iv} {i:Nat}:∀ D σ H,tS K B (hE i f) D σ H->Bm (tE K B f) (vm i) D σ H:=λ D σ H ⟨F,η,o,sr,hd,q⟩=>by
 obtain ⟨d,h1,hd⟩:=ab hd;cases hd;refine ⟨F,η,d,sr,h1,λ v F1 H1 g1 rv=>q _ F1 H1 ⟨sr.gr.trans g1,(sr.en.grow g1).set i rv⟩ g1.ff⟩
theorem At {K:Iv} {i:Nat}:∀ D σ H,tS K B (lh i fs) D σ H->Bm (tO K B fs) (vm i) D σ H:=λ D σ H ⟨F,η,o,sr,hd,q⟩=>by
 obtain ⟨d,h1,hd⟩:=ab hd;cases hd;refine ⟨F,η,d,sr,h1,λ p xs F1 H1 g1 hp fp hp' rs=>q _ F1 H1 ⟨sr.gr.trans g1,(sr.en.grow g1).setOwn i fp (sr.gr.hh.free hp) hp' rs λ j ej=>sr.en.notown hp j ej⟩ g1.ff⟩
theorem jU (i:Nat) {x:Str} (hN:X.N.Nodup) (he:E X B e f) (hi:X.N[i]?=some x:=by rfl) (hx:Loc X.env.scope x:=by first | exact Or.inl rfl | exact Or.inr rfl) (hs:swapsWith e (some (.Name x pos')) pos.line X.env=pure false:=by rfl)
  (hf:X.fn x=true\/X.env.scope.names.lookup x=some .local:=by first | exact .inl rfl | exact .inr rfl):S X B (.Assign [.Name x pos'] e pos) (hE i f):=PS.imp (yR hN hi hx he hs hf) Gg
theorem S.setO (i:Nat) {x:Str} (hN:X.N.Nodup) (he:EO X B e fs) (hi:X.N[i]?=some x:=by rfl) (hx:Loc X.env.scope x:=by first | exact Or.inl rfl | exact Or.inr rfl) (hs:swapsWith e (some (.Name x pos')) pos.line X.env=pure false:=by rfl)
  (hf:X.fn x=true\/X.env.scope.names.lookup x=some .local:=by first | exact .inl rfl | exact .inr rfl):S X B (.Assign [.Name x pos'] e pos) (lh i fs):=PS.imp (yR hN hi hx he hs hf) At
theorem Ss.frz (i:Nat) (h:Ss X B sts u):Ss X B sts (λ η=>u (frz i η)):=PSs.imp h λ D σ H ⟨F,η,o,sr,hd,q⟩=>by
 have hd:u (PU.frz i η)=some o:=hd;unfold PU.frz at hd;split at hd
 ·rename_i ds e;obtain ⟨F',p,e1,sf,sr',rel⟩:=sr.freeze e;exact ⟨F',_,o,sr',hd,q.up sf⟩
 ·rename_i kvs e;obtain ⟨F',p,e1,sf,sr',rel⟩:=sr.freezeD e;exact ⟨F',_,o,sr',hd,q.up sf⟩
 ·exact ⟨F,η,o,sr,hd,q⟩
noncomputable def ItP (K:Iv) (J:It) (F:Hp) (ds:List Iw):Prop:=∀ F1 H1 (i:Nat),Same F F1->Same F1 H1 ->
 (∀ d,ds[i]?=some d->J.go i H1/\∀ x H2,J.yld i H1 x H2->∃ F2,Gr F1 H1 F2 H2/\Rel K F2 d x)/\(i=ds.length->J.stop i H1)
noncomputable def tI (K:Iv) (B:Bd) (f:En->Option (List Iw)):TI:=λ σ H R=>∃ F η ds,SR K B F H σ η/\f η=some ds/\∀ J F' H',Gr F H F' H'->ItP K J F' ds->R J H'
noncomputable def I (X:Cx) (B:Bd) (tg iter:Expr) (f:En->Option (List Iw)):Prop:=PI X tg iter (tI X.K B f)
theorem PI.imp {X:Cx} {tg it:Expr} {t t':TI} (h:PI X tg it t) (i:∀ σ H Q,t' σ H Q->t σ H Q):PI X tg it t':=λ pins s σ H Q I q=>h pins s σ H Q I (i σ H Q q)
noncomputable def TgP (K:Iv) (ks:List Nat) (g:TG) (t:En->Iw->Option En):Prop:=∀ (B:Bd) F H σ η d x η',SR K B F H σ η->Rel K F d x->t η d=some η'->∀ Q:St->Hp->Prop,(∀ σ' F' H',SR K B F' H' σ' η'->Gr F H F' H'->σ'.length=σ.length->(∀ i,i∉ks->σ'[i]?=σ[i]?)->Q σ' H')->g x σ H Q
noncomputable def tgN (i:Nat):En->Iw->Option En:=λ η d=>some (η.set i (.val d))
theorem ax {K:Iv} {i:Nat}:TgP K [i] (vm i) (tgN i):=λ B F H σ η d x η' sr rx e Q q=>by
 cases e;exact q _ F H ⟨sr.gr,sr.en.set i rx⟩ (.refl sr.same) (IZ ..) λ j hj=>Iz (λ e=>hj (by simp [e])) ..
noncomputable def TgsP (K:Iv) (ks:List Nat) (g:TGs) (t:En->List Iw->Option En):Prop:=∀ (B:Bd) F H σ η ds xs η',SR K B F H σ η->RelL K F ds xs->t η ds=some η'->∀ Q:St->Hp->Prop,(∀ σ' F' H',SR K B F' H' σ' η'->Gr F H F' H'->σ'.length=σ.length->(∀ i,i∉ks->σ'[i]?=σ[i]?)->Q σ' H')->g xs σ H Q
noncomputable def gi:En->List Iw->Option En:=λ η ds=>match ds with | []=>some η | _=>none
noncomputable def aO (t:En->Iw->Option En) (r:En->List Iw->Option En):En->List Iw->Option En:=λ η ds=>match ds with | []=>none | d::ds=>(t η d).bind λ η1=>r η1 ds
theorem TgsP.nil {K:Iv}:TgsP K [] Hh gi:=λ B F H σ η ds xs η' sr rx e Q q=>by
 cases ds with
 | nil =>
  cases e;exact ⟨rx.nil_of,q _ F H sr (.refl sr.same) rfl λ _ _=>rfl⟩
 | cons d ds=>cases e
theorem b7 {K:Iv} {ks ls:List Nat} {g:TG} {gs:TGs} {t:En->Iw->Option En} {r:En->List Iw->Option En} (h:TgP K ks g t) (k:TgsP K ls gs r):TgsP K (ks++ls) (EY g gs) (aO t r):=λ B F H σ η ds xs η' sr rx e Q q=>by
 cases ds with
 | nil=>cases e
 | cons d ds =>
  obtain ⟨x,r',rfl,h1,h2⟩:=rx.cons_of;obtain ⟨η1,e1,e2⟩:=ab e;refine ⟨x,r',rfl,h B F H σ η d x η1 sr h1 e1 _ λ σ1 F1 H1 sr1 g1 l1 n1=>?_⟩;refine k B F1 H1 σ1 η1 ds r' η' sr1 (h2.mono g1.ff) e2 _ λ σ2 F2 H2 sr2 g2 l2 n2=>?_;exact q σ2 F2 H2 sr2 (g1.trans g2) (l2.trans l1) λ i hi=>(n2 i λ z=>hi (Ju _ z)).trans (n1 i λ z=>hi (JL _ z))
noncomputable def tgT (t:En->List Iw->Option En):En->Iw->Option En:=λ η d=>match d with | .tuple ds=>t η ds | _=>none
theorem TgP.tup {K:Iv} {ks:List Nat} {n:Nat} {g:TGs} {t:En->List Iw->Option En} (h:TgsP K ks g t) (hn:∀ η ds η',t η ds=some η'->ds.length=n):TgP K ks (Hg K n g) (tgT t):=λ B F H σ η d x η' sr rx e Q q=>by
 cases d with
 | tuple ds =>
  obtain ⟨a,xs,rfl,hq,rs⟩:=rx.tup;exact ⟨a,xs,rfl,dg sr.same hq,by rw [rs.length]; exact hn η ds η' e,h B F H σ η ds xs η' sr rs e Q q⟩
 | none=>cases e
 | bool _=>cases e
 | int _=>cases e
 | str _=>cases e
 | list _=>cases e
 | dict _=>cases e
noncomputable def sGo (t:En->Iw->Option En) (body:En->Option Out):List Iw->En->Option Out
 | [],η=>some (.nx η)
 | d::ds,η=>(t η d).bind λ η1=>(body η1).bind λ o=>match o with
  | .nx η2=>sGo t body ds η2
  | .ct η2=>sGo t body ds η2
  | .bk η2=>some (.nx η2)
  | .rt d=>some (.rt d)
noncomputable def oR (it:En->Option (List Iw)) (t:En->Iw->Option En) (body:En->Option Out):En->Option Out:=λ η=>(it η).bind λ ds=>sGo t body ds η
theorem S.for {tg iter:Expr} {body:List Stmt} {gt:TG} {ks:List Nat} {t:En->Iw->Option En} (hp:PassesOwn (Jt X.prog X.w) X.A X.env X.xe) (hc:X.calm=true) (hi:I X B tg iter fs) (hg:PG X tg gt) (ht:TgP X.K ks gt t) (hb:Ss X B body u)
  (hs:∀ x,foldedSetIterable iter X.env x=pure x:=by intro _; rfl):S X B (.For tg iter body [] pos) (oR fs t u):=PS.imp (yT hp hc hi hg hb hs) λ D σ H ⟨F,η,o,sr,hd,q⟩=>by
 obtain ⟨ds,h1,hd⟩:=ab hd;refine ⟨F,η,ds,sr,h1,λ J F1 H1 g1 ip=>?_⟩;refine ⟨λ i m σ H=>m=ds.length - i/\i<=ds.length/\∃ Fc ηc,SR X.K B Fc H σ ηc/\Same F1 Fc/\sGo t u (ds.drop i) ηc=some o,⟨_,rfl,Kf _,F1,η,sr.grow g1,.refl _,by simpa using hd⟩,?_⟩
 rintro i m σc Hc ⟨rfl,hi,Fc,ηc,src,sc,hgo⟩
 obtain ⟨ip1,ip2⟩:=ip Fc Hc i sc src.same;by_cases hlt:i < ds.length
 ·have e:ds[i]?=some ds[i]:=Jb hlt;obtain ⟨go,yl⟩:=ip1 _ e;rw [Kk hlt] at hgo;unfold sGo at hgo;obtain ⟨η1,e1,hgo⟩:=ab hgo;obtain ⟨o1,e2,hgo⟩:=ab hgo;have cont:∀ (η2:En),sGo t u (ds.drop (i+1)) η2=some o->∀ σ' F' H',SR X.K B F' H' σ' η2->Same F1 F' ->
    ∃ m',m' < ds.length - i/\(λ i m σ H=>m=ds.length - i/\i<=ds.length/\∃ Fc ηc,SR X.K B Fc H σ ηc/\Same F1 Fc/\sGo t u (ds.drop i) ηc=some o) (i+1) m' σ' H':=λ η2 h2 σ' F' H' r s =>
   ⟨ds.length - (i+1),by omega,rfl,hlt,F',η2,r,s,h2⟩
  refine .inr ⟨go,λ σ' H'=>∃ m',m' < ds.length - i/\(λ i m σ H=>m=ds.length - i/\i<=ds.length/\∃ Fc ηc,SR X.K B Fc H σ ηc/\Same F1 Fc/\sGo t u (ds.drop i) ηc=some o) (i+1) m' σ' H',λ σ' H' n=>n,λ x H' y=>?_⟩;obtain ⟨F2,g2,rx⟩:=yl x H' y;refine ht B F2 H' σc ηc _ x η1 (src.grow g2) rx e1 _ λ σ3 F3 H3 sr3 g3 _ _=>?_;refine ⟨F3,η1,o1,sr3,e2,?_⟩;have s3:Same F1 F3:=sc.trans (g2.ff.trans g3.ff);cases o1 with
  | nx η2=>exact λ σ' F' H' r s=>cont η2 hgo σ' F' H' r (s3.trans s)
  | ct η2=>exact λ σ' F' H' r s=>cont η2 hgo σ' F' H' r (s3.trans s)
  | bk η2 =>
   cases hgo;exact λ σ' F' H' r s=>q σ' F' H' r (g1.ff.trans (s3.trans s))
  | rt d =>
   cases hgo;exact q
 ·have ei:i=ds.length:=by omega
  subst ei;rw [List.drop_length] at hgo;cases hgo;exact .inl ⟨ip2 rfl,q σc Fc Hc src (g1.ff.trans sc)⟩
noncomputable def asL:Iw->Option (List Iw)
 | .list ds=>some ds
 | _=>none
noncomputable def qj:Iw->Option (List Iw)
 | .tuple ds=>some ds
 | _=>none
noncomputable def lI (k:Iw->Option (List Iw)) (f:En->Option Iw):En->Option (List Iw):=λ η=>(f η).bind k
theorem yh {K:Iv} {F:Hp} {a:IS} {xs:List V} {ds:List Iw} (h:SqL K F a xs) (r:RelL K F ds xs):ItP K (Itl K a) F ds:=λ F1 H1 i s1 s2=>by
 have q:=s2.seq (s1.seq h);refine ⟨λ d e=>?_,λ e=>⟨xs,q,by rw [r.length,e]; exact IF _⟩⟩;obtain ⟨x,ex,rx⟩:=r.get e;refine ⟨⟨xs,x,q,ex⟩,λ x' H2 y=>?_⟩;obtain ⟨e2,y⟩:=y;subst e2;have z:=y xs q;rw [ex] at z;cases z;exact ⟨F1,.refl s2,rx.mono s1⟩
theorem Eb {K:Iv} {F:Hp} {a:IS} {xs:List V} {ds:List Iw} (h:SqT K F a xs) (r:RelL K F ds xs):ItP K (Itt K a) F ds:=λ F1 H1 i s1 s2=>by
 have q:=dg s2 (dg s1 h);refine ⟨λ d e=>?_,λ e=>⟨xs,q,by rw [r.length,e]; exact IF _⟩⟩;obtain ⟨x,ex,rx⟩:=r.get e;refine ⟨⟨xs,x,q,ex⟩,λ x' H2 y=>?_⟩;obtain ⟨e2,y⟩:=y;subst e2;have z:=y xs q;rw [ex] at z;cases z;exact ⟨F1,.refl s2,rx.mono s1⟩
theorem I.list {tg:Expr} (he:E X B e f):I X B tg e (lI asL f):=PI.imp (wM he) λ σ H Q ⟨F,η,ds,sr,hd,q⟩=>by
 obtain ⟨d,h1,hd⟩:=ab hd;cases d <;> simp only [asL,Option.some.injEq,reduceCtorEq] at hd;subst hd;refine ⟨F,η,_,sr,h1,λ v F1 H1 g1 rv=>?_⟩;obtain ⟨a,xs,rfl,hq,rs⟩:=rv.lst;exact ⟨a,rfl,⟨xs,g1.fh.seq hq⟩,q _ F1 H1 g1 (yh hq rs)⟩
theorem I.tup {tg:Expr} (he:E X B e f):I X B tg e (lI qj f):=PI.imp (FB he) λ σ H Q ⟨F,η,ds,sr,hd,q⟩=>by
 obtain ⟨d,h1,hd⟩:=ab hd;cases d <;> simp only [qj,Option.some.injEq,reduceCtorEq] at hd;subst hd;refine ⟨F,η,_,sr,h1,λ v F1 H1 g1 rv=>?_⟩;obtain ⟨a,xs,rfl,hq,rs⟩:=rv.tup;exact ⟨a,rfl,⟨xs,dg g1.fh hq⟩,q _ F1 H1 g1 (Eb hq rs)⟩
noncomputable def wH (lo:Int) (n:Nat):List Iw:=(List.range n).map λ (k:Nat)=>Jm (lo+k)
theorem Ec {K:Iv} {F:Hp} {lo:Int} {n:Nat}:ItP K (Itr lo n) F (wH lo n):=λ F1 H1 i s1 s2=>by
 have hl:(wH lo n).length=n:=by unfold wH; rw [Iy,JT]
 refine ⟨λ d e=>?_,λ e=>by show n<=i; omega⟩;have hi:i < n:=by rw [<- hl]; exact (ID.mp e).1
 refine ⟨hi,λ x H2 y=>?_⟩;obtain ⟨e2,e3⟩:=y;subst e2 e3
 have:d=.int (lo+i):=by
  unfold wH at e;rw [IP,J7 hi] at e;exact (Option.some.inj e).symm
 subst this;exact ⟨F1,.refl s2,c6⟩
noncomputable def rng1 (ds:List Iw):Option (List Iw):=match ds with
 | [.int j]=>if -(2 ^ 62)<=j/\j < 2 ^ 62 then some (wH 0 j.toNat) else none
 | _=>none
theorem I.rng1 {tg:Expr} {pp:Pos} (hm:X.mg "range" = none) (ha:A X B [a] fs) (hg:Gl X "range" := by rfl) (hs:II [a] X.env=[(false,eval a X.env)]:=by exact cg rfl):I X B tg (.Call (.Name "range" pp) [a] [] pos) (λ η=>(fs η).bind PU.rng1) :=
 PI.imp (AD hg hm ha hs) λ σ H Q ⟨F,η,ds,sr,hd,q⟩=>by
  obtain ⟨es,h1,hd⟩:=ab hd;unfold PU.rng1 at hd;split at hd
  ·rename_i j;split at hd
   ·rename_i hj;cases hd;refine ⟨F,η,_,sr,h1,λ vs F1 H1 g1 rs=>?_⟩;obtain ⟨x,r,rfl,rx,rr⟩:=rs.cons_of;obtain rfl:=rr.nil_of;exact ⟨j,by rw [rx.int],hj.1,hj.2,q _ F1 H1 g1 Ec⟩
   ·cases hd
  ·cases hd
end
noncomputable def qU (mp:List (Option Nat)) (η:En):En:=mp.map λ o=>match o with
 | some j=>(match η[j]? with | some (.val d)=>.val d | some (.ob fs)=>.ob fs | _=>.un)
 | none=>.un
noncomputable def cGo (t:En->Iw->Option En) (p:En->Option Bool) (f:En->Option Iw) (η:En):List Iw->Option (List Iw)
 | []=>some []
 | d::ds=>(t η d).bind λ η1=>(p η1).bind λ ok=>if ok=true then (f η1).bind λ y=>(cGo t p f η ds).bind λ r=>some (y::r) else cGo t p f η ds
noncomputable def bj (mp:List (Option Nat)) (fi:En->Option (List Iw)) (t:En->Iw->Option En) (p:En->Option Bool) (f:En->Option Iw):En->Option (List Iw):=λ η =>
 (fi η).bind λ ds=>if ds.length<=IB then cGo t p f (qU mp η) ds else none
noncomputable def Ts (X:Cx) (B:Bd) (ifs:List Expr) (p:En->Option Bool):Prop:=PTs X ifs (tT X.K B p)
noncomputable def cy:En->Option Bool:=λ _=>some true
section
variable {X:Cx} {B:Bd}
theorem Ts.nil:Ts X B [] cy:=λ pins s σ H Q I ⟨F,η,b,sr,hd,q⟩=>by
 cases hd;exact Ds pins s σ H Q I (q F H (.refl sr.same))
theorem Ts.one {c:Expr} {p:En->Option Bool} (h:T X B c p):Ts X B [c] p:=Dq h
theorem Ae {mp:List (Option Nat)} {η:En} {i:Nat} {a:Sl} (e:(qU mp η)[i]?=some a):j4 a=false:=by
 unfold qU at e;rw [IP] at e;cases q:mp[i]? with
 | none=>rw [q] at e; cases e
 | some o =>
  rw [q] at e;cases o with
  | none=>cases e; rfl
  | some j =>
   have e':(match η[j]? with | some (.val d)=>Sl.val d | some (.ob fs)=>.ob fs | _=>.un)=a:=Option.some.inj e;split at e' <;> (subst e'; rfl)
theorem EnR.inner {K:Iv} {He F H:Hp} {σ:St} {η:En} (r:EnR K He F H σ η) (mp:List (Option Nat)):EnR K He F H (mh mp σ) (qU mp η) where
 len:=by unfold qU mh; rw [Iy,Iy]
 val:=λ i d e=>by
  unfold qU at e;rw [IP] at e;cases q:mp[i]? with
  | none=>rw [q] at e; cases e
  | some o =>
   rw [q] at e;cases o with
   | none=>cases e
   | some j =>
    have e':(match η[j]? with | some (.val d)=>Sl.val d | some (.ob fs)=>.ob fs | _=>.un)=.val d:=Option.some.inj e;split at e'
    ·rename_i d' ed
     have:d'=d:=by injection e'
     subst this;obtain ⟨v,e1,e2⟩:=r.val j d' ed;refine ⟨v,?_,e2⟩;unfold mh;rw [IP,q];show some ((σ[j]?).join)=_;rw [e1];rfl
    ·cases e'
    ·cases e'
 obs:=λ i fs e=>by
  unfold qU at e;rw [IP] at e;cases q:mp[i]? with
  | none=>rw [q] at e; cases e
  | some o =>
   rw [q] at e;cases o with
   | none=>cases e
   | some j =>
    have e':(match η[j]? with | some (.val d)=>Sl.val d | some (.ob fs)=>.ob fs | _=>.un)=.ob fs:=Option.some.inj e;split at e'
    ·cases e'
    ·rename_i d' ed
     have:d'=fs:=by injection e'
     subst this;obtain ⟨p,C,dx,xs,e1,e2⟩:=r.obs j d' ed;refine ⟨p,C,dx,xs,?_,e2⟩;unfold mh;rw [IP,q];show some ((σ[j]?).join)=_;rw [e1];rfl
    ·cases e'
 cel:=λ i a e ha=>by rw [Ae e] at ha; cases ha
 apart:=λ i j a b e _ ha _ _=>by rw [Ae e] at ha; cases ha
variable {elt iter tg:Expr} {ifs:List Expr} {scope:Scope} {pos:Pos} {N':List Str} {mp:List (Option Nat)} {ks:List Nat} {gt:TG} {t:En->Iw->Option En} {fi:En->Option (List Iw)} {p:En->Option Bool} {f:En->Option Iw}
theorem uu {K:Iv} (ht:TgP K ks gt t) (hks:∀ k∈ks,mp[k]?=some none):∀ σ H Q,tO K B (bj mp fi t p f) σ H Q->zF mp (tI K B fi) gt (tT K B p) (tE K B f) σ H Q:=λ σ H Q ⟨F,η,rs,sr,hd,q⟩=>by
 obtain ⟨ds,h1,hd⟩:=ab hd;split at hd
 rotate_left
 ·cases hd
 rename_i hz;refine ⟨F,η,ds,sr,h1,λ J F1 H1 g1 ip D hD=>?_⟩;have fD:F1 D=none:=g1.fh.free hD;have kept:∀ {σ2:St},σ2.length=(mh mp σ).length->(∀ i,i∉ks->σ2[i]?=(mh mp σ)[i]?)->xz (mh mp σ) σ2:=λ {σ2} hl hn=>⟨hl,λ i v e=>by
  by_cases hi:i∈ks
  ·have z:=hks i hi;unfold mh at e;rw [IP,z] at e;cases e
  ·rw [hn i hi]; exact e⟩
 refine ⟨λ i m Hc=>m=ds.length - i/\i<=ds.length/\∃ Fc ys done rest,Gr F1 H1 Fc Hc/\Fc D=none/\Hc D=some (.lst ys)/\RelL K Fc done ys/\done.length<=i/\cGo t p f (qU mp η) (ds.drop i)=some rest/\rs=done++rest,⟨_,rfl,Kf _,F1,[],[],rs,⟨.refl _,fu hD _,λ b u z=>fu hD _ b u (g1.fh b u z),λ b z=>.inl z⟩,fD,aw,.nil,IF _,by simpa using hd,rfl⟩,?_⟩
 rintro i m Hc ⟨rfl,hi,Fc,ys,done,rest,gc,fcD,hcD,rd,hdl,hgo,hrs⟩
 obtain ⟨ip1,ip2⟩:=ip Fc Hc i gc.ff gc.fh;by_cases hlt:i < ds.length
 ·have e:ds[i]?=some ds[i]:=Jb hlt;obtain ⟨go,yl⟩:=ip1 _ e;rw [Kk hlt] at hgo;unfold cGo at hgo;obtain ⟨η1,e1,hgo⟩:=ab hgo;obtain ⟨ok,e2,hgo⟩:=ab hgo;refine .inr ⟨go,λ H'=>∃ m',m' < ds.length - i/\(m'=ds.length - (i+1)/\i+1<=ds.length/\∃ Fc ys done rest,Gr F1 H1 Fc H'/\Fc D=none/\H' D=some (.lst ys)/\RelL K Fc done ys/\done.length<=i+1/\cGo t p f (qU mp η) (ds.drop (i+1))=some rest/\rs=done++rest),λ H' n=>n,λ x H' y=>?_⟩;obtain ⟨F2,g2,rx⟩:=yl x H' y;have sin:SR K B F2 H' (mh mp σ) (qU mp η):=⟨(sr.gr.trans g1).trans (gc.trans g2),((sr.en.grow g1).inner mp).grow (gc.trans g2)⟩;refine ht B F2 H' (mh mp σ) (qU mp η) _ x η1 sin rx e1 _ λ σ3 F3 H3 sr3 g3 l3 n3=>⟨kept l3 n3,F3,η1,ok,sr3,e2,λ F4 H4 g4=>?_⟩;have gall:Gr Fc Hc F4 H4:=(g2.trans g3).trans g4;have nD:∀ {F5 H5:Hp},Gr Fc Hc F5 H5->F5 D=none:=λ {F5 H5} g=>by
   cases z:F5 D with
   | none=>rfl
   | some o =>
    rcases g.new D (by rw [z]; simp) with w | w
    ·exact absurd fcD w
    ·rw [hcD] at w; cases w
  cases ok with
  | false =>
   rw [if_neg IT] at hgo;refine Ia ?_;exact ⟨ds.length - (i+1),by omega,rfl,hlt,F4,ys,done,rest,gc.trans gall,nD gall,gall.hh _ _ hcD,rd.mono gall.ff,Nat.le_succ_of_le hdl,hgo,hrs⟩
  | true =>
   rw [if_pos rfl] at hgo;refine HZ ?_;obtain ⟨yv,e3,hgo⟩:=ab hgo;obtain ⟨r,e4,hgo⟩:=ab hgo;cases hgo;refine ⟨F4,η1,yv,sr3.grow g4,e3,λ v F5 H5 g5 rv=>?_⟩;have ga:=gall.trans g5;have h5D:=ga.hh _ _ hcD;refine ⟨ys,h5D,by rw [rd.length]; omega,ds.length - (i+1),by omega,rfl,hlt,F5,ys++[v],done++[yv],r,?_,nD ga,aw,(rd.mono ga.ff).append (.cons rv .nil),by rw [IA,Kb]; omega,e4,by rw [hrs,JJ]; rfl⟩;have gt':=gc.trans ga;refine ⟨gt'.ff,λ b u z=>?_,λ b u z=>?_,gt'.new⟩
   ·have nb:b≠D:=aB z hD;rw [am nb]; exact gt'.hh b u z
   ·have nb:b≠D:=aB z (nD ga);rw [am nb]; exact gt'.fh b u z
 ·have ei:i=ds.length:=by omega
  subst ei;rw [List.drop_length] at hgo;cases hgo;rw [JB] at hrs;subst hrs;exact .inl ⟨ip2 rfl,q D ys Fc Hc (g1.trans gc) (g1.hh.free hD) fcD hcD rd⟩
theorem gh (hc:X.calm=true) (ck:CompSc X scope N' mp) (ht:TgP X.K ks gt t) (hks:∀ k∈ks,mp[k]?=some none) (hi:I X B tg iter fi)
  (hb:∀ s H fp,PG (cI X scope N' s H fp) tg gt/\Ts (cI X scope N' s H fp) B ifs p/\E (cI X scope N' s H fp) B elt f)
  (hs:∀ x,foldedSetIterable iter X.env x=pure x:=by intro _; rfl):EO X B (.ListComp elt [⟨tg,iter,ifs,0⟩] scope pos) (bj mp fi t p f):=PE.imp (zQ hc ck hi hb hs) (uu ht hks)
theorem S.setC (i:Nat) {y:Str} {py spos:Pos} (hc:X.calm=true) (hN:X.N.Nodup) (ck:CompSc X scope N' mp) (ht:TgP X.K ks gt t) (hks:∀ k∈ks,mp[k]?=some none) (hi:I X B tg iter fi)
  (hb:∀ s H fp,PG (cI X scope N' s H fp) tg gt/\Ts (cI X scope N' s H fp) B ifs p/\E (cI X scope N' s H fp) B elt f)
  (hiy:X.N[i]?=some y:=by rfl) (hy:X.env.scope.names.lookup y=some .local:=by rfl) (hsw:swapsWith (.ListComp elt [⟨tg,iter,ifs,0⟩] scope pos) (some (.Name y py)) spos.line X.env=pure true:=by rfl)
  (hs:∀ x,foldedSetIterable iter X.env x=pure x:=by intro _; rfl):S X B (.Assign [.Name y py] (.ListComp elt [⟨tg,iter,ifs,0⟩] scope pos) spos) (lh i (bj mp fi t p f)) :=
 PS.imp (uK hc hN hiy hy ck hi hb hsw hs) λ D σ H h=>by
  have h':=At D σ H h;exact uu ht hks σ H _ h'
end
noncomputable def dh (n m:Nat) (g:En->Option Out) (ds:List Iw):Option Iw:=if ds.length=n then (g (ds.map Sl.val++JK (m - n) .un)).bind λ o=>match o with
 | .rt d=>some d
 | .nx _=>some .none
 | _=>none else none
section
variable {P:Jg} {w:World} {K:Iv} {mg:Str->Option IE} {base:Heap}
theorem xI {n:Nat} {ds:List Iw} {i:Nat} {a:Sl} (e:(ds.map Sl.val++JK n .un)[i]?=some a):j4 a=false:=by
 by_cases hi:i < ds.length
 ·rw [IC (by rw [Iy]; exact hi),IP] at e;cases q:ds[i]? with
  | none=>rw [q] at e; cases e
  | some d'=>rw [q] at e; cases e; rfl
 ·rw [IJ (by rw [Iy]; omega),JV] at e;split at e <;> cases e;rfl
theorem EnR.start {F H:Hp} {N:List Str} {ds:List Iw} {vs:List V} (r:RelL K F ds vs):EnR K H F H (L2.start N vs) (ds.map Sl.val++JK (N.length - ds.length) .un) where
 len:=by unfold L2.start; rw [IA,IA,Iy,Iy,J1,J1,r.length]
 val:=λ i d e=>by
  unfold L2.start;by_cases hi:i < ds.length
  ·rw [IC (by rw [Iy]; exact hi),IP] at e;rw [IC (by rw [Iy,r.length]; exact hi),IP];cases q:ds[i]? with
   | none=>rw [q] at e; cases e
   | some d' =>
    rw [q] at e
    have:d'=d:=by injection (Option.some.inj e)
    subst this;obtain ⟨x,e1,e2⟩:=r.get q;exact ⟨x,by rw [e1]; rfl,e2⟩
  ·rw [IJ (by rw [Iy]; omega),JV] at e;split at e <;> cases e
 cel:=λ i a e ha=>by rw [xI e] at ha; cases ha
 obs:=λ i fs e=>by
  by_cases hi:i < ds.length
  ·rw [IC (by rw [Iy]; exact hi),IP] at e;cases q:ds[i]? with
   | none=>rw [q] at e; cases e
   | some d'=>rw [q] at e; cases e
  ·rw [IJ (by rw [Iy]; omega),JV] at e;split at e <;> cases e
 apart:=λ i _ a _ e _ ha _ _=>by rw [xI e] at ha; cases ha
theorem fnP {x qual:Str} {st:Stmt} {f:IS} {fd:Jx} {N ps:List Str} {k:Nat} {g:En->Option Out} (Fn:Fun K x qual st f fd) (Sc:aI N ps (af st))
  (hb:∀ (cdv:IE) (A:JH) (outer:List Env) (s:IG) (H:Hp) (E:XK) (F:Hp),Room k (A.deeper (envOfC qual (af st) s.heap.objs.size f cdv)) ->
   Ss (yw CX0 P w K mg base N qual (af st) f cdv A outer s H E).nox ⟨F,H⟩ (ot st) g) :
  FnOk P w K mg base CX0 (k+1) f fd ps (spP K (dh ps.length N.length g)):=by
 have len:∀ {F:Hp} {ds:List Iw} {vs:List V} {d:Iw},RelL K F ds vs->dh ps.length N.length g ds=some d->ds.length=ps.length/\vs.length=ps.length:=λ {F ds vs d} r e=>by
  unfold dh at e;split at e
  ·rename_i hl;exact ⟨hl,by rw [r.length]; exact hl⟩
  ·cases e
 refine Fn.ok Sc (λ vs H Q E h=>?_) (λ cdv A outer s H vs Q E hr h=>?_)
 ·obtain ⟨F,ds,d,_,r,e,_⟩:=h;exact (len r e).2
 ·obtain ⟨F,ds,d,sm,r,e,q⟩:=h;obtain ⟨l1,l2⟩:=len r e;refine ⟨_,hb cdv A outer s H E F hr,?_⟩;unfold dh at e;rw [if_pos l1] at e;obtain ⟨o,e1,e2⟩:=ab e;refine ⟨F,_,o,⟨.refl sm,?_⟩,e1,?_⟩
  ·have z:=EnR.start (K:=K) (H:=H) (N:=N) r;rw [l1] at z;exact z
  ·cases o with
   | rt d' =>
    cases e2;exact λ v F' H' g rv=>q v F' H' g rv
   | nx η' =>
    cases e2;exact λ σ' F' H' sr _=>q .non F' H' sr.gr p6
   | bk η'=>cases e2
   | ct η'=>cases e2
theorem fn0 {f:IS} {fd:Jx} {ps:List Str} {k:Nat}:FnOk P w K mg base CX0 k f fd ps (spP K (λ _=>none)) :=
 ⟨λ vs H Q E h=>(by obtain ⟨_,_,_,_,_,e,_⟩:=h; cases e),λ A outer s H args us vs Q E _ _ _ _ h=>(by obtain ⟨_,_,_,_,_,e,_⟩:=h; cases e)⟩
end
section
variable {X:Cx}
mutual
theorem Rel.reads {pins:List (IS×Obj)} {σ:St} {F H:Hp} {s:IG} (I:Inv X pins σ H s) (sm:Same F H):∀ {d:Iw} {v:V} {u:IE},Jw d=true->Rel X.K F d v->RelV v u->∃ as,Reads s.heap u d as
 | .none,v,u,_,h,r=>by
  rw [h.non] at r; cases r;exact ⟨_,.none⟩
 | .bool b,v,u,_,h,r=>by
  rw [h.bl] at r; cases r;exact ⟨_,.bool b⟩
 | .int i,v,u,_,h,r=>by
  rw [h.int] at r; obtain ⟨t,rfl⟩:=r;exact ⟨_,.int i t⟩
 | .str x,v,u,_,h,r=>by
  rw [h.str] at r; obtain ⟨t,rfl⟩:=r;exact ⟨_,.str x t⟩
 | .tuple ds,v,u,c,h,r=>by
  unfold Jw at c;obtain ⟨a,xs,rfl,hq,rs⟩:=h.tup;cases r;obtain ⟨its,rv,⟨o,ho,hc,n,hd⟩,_⟩:=I.tuple (dg sm hq);obtain ⟨as,h'⟩:=RelL.reads I sm c rs rv;exact ⟨as,.tuple ho hc hd (by simpa using h')⟩
 | .list ds,v,u,c,h,r=>by
  unfold Jw at c;obtain ⟨a,xs,rfl,hq,rs⟩:=h.lst;cases r;obtain ⟨its,rv,p,_⟩:=I.list (sm.seq hq);obtain ⟨o,ho,hc,n,hd⟩:=p.isList;obtain ⟨as,h'⟩:=RelL.reads I sm c rs rv;exact ⟨a::as,.list ho hc hd (by simpa using h')⟩
 | .dict _,v,u,c,h,r=>by unfold Jw at c; cases c
theorem RelL.reads {pins:List (IS×Obj)} {σ:St} {F H:Hp} {s:IG} (I:Inv X pins σ H s) (sm:Same F H):∀ {ds:List Iw} {vs:List V} {us:List IE},JA ds=true->RelL X.K F ds vs->Vals vs us->∃ as,ReadsAll s.heap us ds as
 | [],vs,us,_,h,r=>by
  rw [h.nil_of] at r; cases r;exact ⟨_,.nil⟩
 | d::ds,vs,us,c,h,r=>by
  unfold JA at c;obtain ⟨c1,c2⟩:=J4.mp c;obtain ⟨x,xs,rfl,h1,h2⟩:=h.cons_of;cases r with
  | cons r1 r2 =>
   obtain ⟨as,e1⟩:=Rel.reads I sm c1 h1 r1;obtain ⟨bs,e2⟩:=RelL.reads I sm c2 h2 r2;exact ⟨as++bs,.cons e1 e2⟩
end
noncomputable def Dn (K:Iv) (neg:Bool):R2:=λ x y H Q=>∃ F dx dy,Same F H/\Rel K F dx x/\Rel K F dy y/\Jo dx=true/\Jo dy=true/\Q (.bl (if neg then !Jh dx dy else Jh dx dy)) H
theorem y0 (hu:X.A.units+64 < cLine):OpR X (JG .Eq) (Dn X.K false):=by
 intro pins s σ H x y v u Q I rx ry h;obtain ⟨F,dx,dy,sm,h1,h2,s1,s2,q⟩:=h;obtain ⟨as,ra⟩:=Rel.reads I sm (SeqAt.canLay_of_shaped s1) h1 rx;obtain ⟨bs,rb⟩:=Rel.reads I sm (SeqAt.canLay_of_shaped s2) h2 ry;exact SeqAt.compareEq_shaped ra rb s1 s2 hu ⟨.bl _,H,I,rfl,q⟩
theorem FJ (hu:X.A.units+64 < cLine):OpR X (JG .NotEq) (Dn X.K true):=by
 intro pins s σ H x y v u Q I rx ry h;obtain ⟨F,dx,dy,sm,h1,h2,s1,s2,q⟩:=h;obtain ⟨as,ra⟩:=Rel.reads I sm (SeqAt.canLay_of_shaped s1) h1 rx;obtain ⟨bs,rb⟩:=Rel.reads I sm (SeqAt.canLay_of_shaped s2) h2 ry;exact SeqAt.compareNe_shaped ra rb s1 s2 hu ⟨.bl _,H,I,rfl,q⟩
noncomputable def pEq (x y:Iw):Option Iw:=if Jo x=true/\Jo y=true then some (.bool (Jh x y)) else none
noncomputable def pNe (x y:Iw):Option Iw:=if Jo x=true/\Jo y=true then some (.bool (!Jh x y)) else none
theorem CL {K:Iv}:Ad2 K (Dn K false) pEq:=λ F H x y dx dy d Q sm rx ry e q=>by
 unfold pEq at e;split at e
 ·rename_i hs;cases e;exact ⟨F,dx,dy,sm,rx,ry,hs.1,hs.2,q _ F H (.refl sm) gz⟩
 ·cases e
theorem Hw {K:Iv}:Ad2 K (Dn K true) pNe:=λ F H x y dx dy d Q sm rx ry e q=>by
 unfold pNe at e;split at e
 ·rename_i hs;cases e;exact ⟨F,dx,dy,sm,rx,ry,hs.1,hs.2,q _ F H (.refl sm) gz⟩
 ·cases e
noncomputable def pI (C:Int->Int->Prop) [∀ i j,Decidable (C i j)] (g:Int->Int->Iw) (x y:Iw):Option Iw:=match x,y with
 | .int i,.int j=>if C i j then some (g i j) else none
 | _,_=>none
instance:∀ i j,Decidable (CMul i j):=λ i j=>by unfold CMul; infer_instance
instance:∀ i j,Decidable (CDiv i j):=λ i j=>by unfold CDiv; infer_instance
theorem Gp {K:Iv} {C:Int->Int->Prop} [∀ i j,Decidable (C i j)] {g:Int->Int->Iw} {gv:Int->Int->V} (hg:∀ F i j,Rel K F (g i j) (gv i j)):Ad2 K (rI C gv) (pI C g):=λ F H x y dx dy d Q sm rx ry e q=>by
 cases dx <;> cases dy <;> simp only [pI,reduceCtorEq] at e;split at e
 ·rename_i hc;cases e;exact ⟨_,_,rx.int,ry.int,hc,q _ F H (.refl sm) (hg F _ _)⟩
 ·cases e
theorem wz {K:Iv} {g:Int->Int->Iw} {gv:Int->Int->V} (hg:∀ F i j,Rel K F (g i j) (gv i j)):Ad2 K (rI0 gv) (pI (λ _ _=>True) g):=λ F H x y dx dy d Q sm rx ry e q=>by
 cases dx <;> cases dy <;> simp only [pI,reduceCtorEq,if_true] at e;cases e;exact ⟨_,_,rx.int,ry.int,q _ F H (.refl sm) (hg F _ _)⟩
noncomputable def vO:=pI (λ _ _=>True) λ i j=>.int (i - j)
noncomputable def mI:=pI CMul λ i j=>.int (i*j)
noncomputable def ph:=pI CDiv λ i j=>.int (i / j)
noncomputable def nH:=pI (λ _ j=>0 < j) λ i j=>.int (i % j)
noncomputable def pLt:=pI (λ _ _=>True) λ i j=>.bool (decide (i < j))
noncomputable def pLe:=pI (λ _ _=>True) λ i j=>.bool (decide (i<=j))
section
variable {B:Bd} {a b:Expr} {f g:En->Option Iw} {pos:Pos}
theorem E.sub (ha:E X B a f) (hb:E X B b g):E X B (.BinOp a .Sub b pos) (l2 vO f g):=E.op FI (wz λ _ _ _=>c6) ha hb
theorem E.mul (ha:E X B a f) (hb:E X B b g):E X B (.BinOp a .Mult b pos) (l2 mI f g):=E.op FK (Gp λ _ _ _=>c6) ha hb
theorem E.fdiv (ha:E X B a f) (hb:E X B b g):E X B (.BinOp a .FloorDiv b pos) (l2 ph f g):=E.op DH (Gp λ _ _ _=>c6) ha hb
theorem E.mod (ha:E X B a f) (hb:E X B b g):E X B (.BinOp a .Mod b pos) (l2 nH f g):=E.op FL (Gp λ _ _ _=>c6) ha hb
theorem E.eq {k:Nat} (hr:Room k X.A) (ha:E X B a f) (hb:E X B b g):E X B (.Compare a [.Eq] [b] pos) (l2 pEq f g):=E.cmp (y0 hr.units) CL (nomark b) ha hb
theorem sX {k:Nat} (hr:Room k X.A) (ha:E X B a f) (hb:E X B b g):T X B (.Compare a [.Eq] [b] pos) (bT (l2 pEq f g)):=T.cmp (y0 hr.units) CL (nomark b) ha hb
theorem T.ne {k:Nat} (hr:Room k X.A) (ha:E X B a f) (hb:E X B b g):T X B (.Compare a [.NotEq] [b] pos) (bT (l2 pNe f g)):=T.cmp (FJ hr.units) Hw (nomark b) ha hb
end
noncomputable def Bt (K:Iv):R2:=λ x y H Q=>∃ l b xs zs,x=.ref l/\y=.ref b/\SqL K H l xs/\SqL K H b zs/\xs.length+zs.length<=IB/\∀ p,H p=none->Q (.ref p) (upd H p (.lst (xs++zs)))
theorem op_catS:OpR X (binaryOp .Add) (Bt X.K):=by
 intro pins s σ H x y v u Q I rx ry h;obtain ⟨l,b,xs,zs,rfl,rfl,hH,hB,hz,q⟩:=h;cases rx;cases ry;obtain ⟨its,r,⟨⟨c1,d1,t1,sl1⟩,n,e,ec,ed,es⟩,z⟩:=I.list hH;obtain ⟨its2,r2,⟨⟨c2,d2,t2,sl2⟩,n2,e2,ec2,ed2,es2⟩,z2⟩:=I.list hB;have hl:=r.length;have hl2:=r2.length;simp only at ec ed es ec2 ed2 es2;subst ec ed es ec2 ed2 es2;have ea:its.toArray++its2.toArray=(its++its2).toArray:=by simp
 refine concat_meets ⟨_,e,rfl⟩ ⟨_,e2,rfl⟩ PySem.noFill_list_add PySem.seq_list_add PySem.F.slot_list_add PySem.F.entry_list_add (PySem.F.args_list_add_2 _ _)
   (list_addW l b its.toArray its2.toArray n n2 none none sl1 sl2 (by rw [IL,IL]; omega)) ⟨e,e2,?_⟩
 rw [ea];exact ⟨.ref _,_,I.lnew (t':=s.toks) (r.append r2) (by rw [IA]; omega),rfl,q _ I.fresh⟩
noncomputable def yQ (K:Iv):R2:=λ x y H Q=>∃ a b xs ys,x=.ref a/\y=.ref b/\SqT K H a xs/\SqT K H b ys/\xs.length+ys.length<=IB /\
 (xs=[]->Q (.ref b) H)/\(xs≠[]->ys=[]->Q (.ref a) H)/\(∀ p,H p=none->Q (.ref p) (upd H p (.tup (xs++ys))))
theorem BV:OpR X (binaryOp .Add) (yQ X.K):=by
 intro pins s σ H x y v u Q I rx ry h;obtain ⟨a,b,xs,ys,rfl,rfl,ha,hb,hz,q0,q1,q2⟩:=h;cases rx;cases ry;obtain ⟨its,r1,p1,_⟩:=I.tuple ha;obtain ⟨its2,r2,p2,_⟩:=I.tuple hb;by_cases hx:xs=[]
 ·have hi:its=[]:=r1.nil_iff.mpr hx;obtain ⟨⟨cls,dd,data,sl⟩,ho,hc,n,hd⟩:=id p1;obtain ⟨⟨cls2,dd2,data2,sl2⟩,ho2,hc2,n2,hd2⟩:=id p2;simp only at hc hd hc2 hd2;subst hc hd hc2 hd2;exact concat_meets ⟨_,ho,rfl⟩ ⟨_,ho2,rfl⟩ noFill_tuple_add seq_tuple_add PySem.F.slot_tuple_add PySem.F.entry_tuple_add (PySem.F.args_tuple_add_2 _ _)
   (tuple_addW0 a b its.toArray its2.toArray n n2 dd dd2 sl sl2 (by simp [hi])) ⟨ho,ho2,⟨.ref b,H,I,rfl,q0 hx⟩⟩
 ·refine HT.cat_tup p1 p2 (λ z=>hx (r1.nil_iff.mp z)) (λ z=>⟨.ref a,H,I,rfl,q1 hx (r2.nil_iff.mp z)⟩) (λ z=>?_) (by rw [<- r1.length,<- r2.length]; exact hz);refine ⟨.ref s.heap.objs.size,_,I.laid (t':=s.toks) (o:=.tup (xs++ys)) (λ b ob q=>IK _ q) (IF _) ?_,rfl,q2 _ (I.hok.fresh (IF _))⟩;exact ⟨by rw [IA]; exact hz,_,r1.append r2,IsTup.new _ _⟩
noncomputable def aW (x y:Iw):Option Iw:=match x,y with
 | .int i,.int j=>some (.int (i+j))
 | .str i,.str j=>if i.length+j.length<=IB then some (.str (i++j)) else none
 | .list i,.list j=>if i.length+j.length<=IB then some (.list (i++j)) else none
 | .tuple i,.tuple j=>if i.length+j.length<=IB then some (.tuple (i++j)) else none
 | _,_=>none
theorem zZ:OpR X (binaryOp .Add) (λ x y H Q=>(∃ i j,x=.int i/\y=.int j/\Q (.int (i+j)) H)\/(∃ i j,x=.str i/\y=.str j/\i.length+j.length<=IB/\Q (.str (i++j)) H)\/Bt X.K x y H Q\/yQ X.K x y H Q) :=
 op_add.or (op_add_str.or (op_catS.or BV))
theorem CN {K:Iv}:Ad2 K (λ x y H Q=>(∃ i j,x=.int i/\y=.int j/\Q (.int (i+j)) H)\/(∃ i j,x=.str i/\y=.str j/\i.length+j.length<=IB/\Q (.str (i++j)) H)\/Bt K x y H Q\/yQ K x y H Q) aW:=λ F H x y dx dy d Q sm rx ry e q=>by
 unfold aW at e;split at e
 ·cases e;exact .inl ⟨_,_,rx.int,ry.int,q _ F H (.refl sm) c6⟩
 ·split at e
  ·rename_i hz;cases e;exact .inr (.inl ⟨_,_,rx.str,ry.str,hz,q _ F H (.refl sm) n5⟩)
  ·cases e
 ·split at e
  ·rename_i hz;cases e;obtain ⟨a,xs,rfl,h1,r1⟩:=rx.lst;obtain ⟨b,ys,rfl,h2,r2⟩:=ry.lst;refine .inr (.inr (.inl ⟨a,b,xs,ys,rfl,rfl,sm.seq h1,sm.seq h2,by rw [r1.length,r2.length]; exact hz,λ p hp=>?_⟩));have g:=Gr.one (o:=.lst (xs++ys)) sm hp;exact q _ _ _ g (kB (SqL.of aw) ((r1.append r2).mono g.ff))
  ·cases e
 ·rename_i i j;split at e
  ·rename_i hz;cases e;obtain ⟨a,xs,rfl,h1,r1⟩:=rx.tup;obtain ⟨b,ys,rfl,h2,r2⟩:=ry.tup;refine .inr (.inr (.inr ⟨a,b,xs,ys,rfl,rfl,dg sm h1,dg sm h2,by rw [r1.length,r2.length]; exact hz,λ z=>?_,λ z1 z2=>?_,λ p hp=>?_⟩))
   ·subst z
    have:=List.eq_nil_of_length_eq_zero r1.length.symm
    subst this;exact q _ F H (.refl sm) (iD h2 (by simpa using r2))
   ·subst z2
    have:=List.eq_nil_of_length_eq_zero r2.length.symm
    subst this;exact q _ F H (.refl sm) (iD h1 (by simpa using r1))
   ·have g:=Gr.one (o:=.tup (xs++ys)) sm hp;exact q _ _ _ g (iD (SqT.of aw) ((r1.append r2).mono g.ff))
  ·cases e
 ·cases e
section
variable {B:Bd} {a b e:Expr} {es:List Expr} {f g:En->Option Iw} {fs:En->Option (List Iw)} {pos pp:Pos}
theorem eN (ha:E X B a f) (hb:E X B b g):E X B (.BinOp a .Add b pos) (l2 aW f g):=E.op zZ CN ha hb
noncomputable def xU:Iw->Option Iw
 | .int i=>some (.int (-i))
 | _=>none
theorem E.neg (ha:E X B a f):E X B (.UnaryOp .USub a pos) (l1 xU f):=PE.imp (GX Fe ha) λ σ H Q ⟨F,η,d,sr,hd,q⟩=>by
 obtain ⟨x,hx,hd⟩:=ab hd;cases x <;> simp only [xU,reduceCtorEq,Option.some.injEq] at hd;subst hd;exact ⟨F,η,_,sr,hx,λ v F1 H1 g1 rv=>⟨_,rv.int,q _ F1 H1 g1 c6⟩⟩
noncomputable def pIx (x y:Iw):Option Iw:=match x,y with
 | .list ds,.int i=>atI ds i
 | .tuple ds,.int i=>atI ds i
 | .str z,.int i=>if z.length<=IB then (atI z.cps.toList i).bind λ c=>some (.str ⟨#[c]⟩) else none
 | _,_=>none
theorem As {K:Iv} {F:Hp} {ds:List Iw} {xs:List V} {i:Int} {d:Iw} (r:RelL K F ds xs) (e:atI ds i=some d):∃ x,atI xs i=some x/\Rel K F d x:=by
 unfold atI at e ⊢;rw [r.length];obtain ⟨j,h1,h2⟩:=ab e;rw [h1];obtain ⟨x,h3,h4⟩:=r.get h2;exact ⟨x,h3,h4⟩
theorem E4 {K:Iv}:Ad2 K (rIx K) pIx:=λ F H x y dx dy d Q sm rx ry e q=>by
 unfold pIx at e;split at e
 ·obtain ⟨a,xs,rfl,h1,r1⟩:=rx.lst;obtain ⟨v,h2,h3⟩:=As r1 e;exact .inl ⟨a,xs,_,v,rfl,ry.int,sm.seq h1,h2,q _ F H (.refl sm) h3⟩
 ·obtain ⟨a,xs,rfl,h1,r1⟩:=rx.tup;obtain ⟨v,h2,h3⟩:=As r1 e;exact .inr (.inl ⟨a,xs,_,v,rfl,ry.int,dg sm h1,h2,q _ F H (.refl sm) h3⟩)
 ·split at e
  ·rename_i hz;obtain ⟨c,h1,h2⟩:=ab e;cases h2;exact .inr (.inr ⟨_,_,c,rx.str,ry.int,hz,h1,q _ F H (.refl sm) n5⟩)
  ·cases e
 ·cases e
theorem df (ha:E X B a f) (hb:E X B b g) (hs:qa b:=by intro _ _; rfl):E X B (.Subscript a b pos) (l2 pIx f g):=E.ix Cg E4 ha hb hs
noncomputable def iS:Iw->Bool
 | .none=>true
 | .bool _=>true
 | .int _=>true
 | .str _=>true
 | _=>false
theorem xf {K:Iv} {F:Hp} {d:Iw} {v:V} (h:iS d=true) (r:Rel K F d v):qE v=true:=by
 cases d <;> simp [iS] at h
 ·rw [r.non]; rfl
 ·rw [r.bl]; rfl
 ·rw [r.int]; rfl
 ·rw [r.str]; rfl
theorem vn {K:Iv} {F:Hp}:∀ {ds:List Iw} {vs:List V},ds.all iS=true->RelL K F ds vs->vs.all qE=true
 | [],vs,_,r=>by rw [r.nil_of]; rfl
 | d::ds,vs,h,r=>by
  obtain ⟨x,xs,rfl,r1,r2⟩:=r.cons_of;rw [J2,JC] at h ⊢;exact ⟨xf h.1 r1,vn h.2 r2⟩
theorem Ga {K:Iv} {F:Hp} {d e:Iw} {x y:V} (hd:iS d=true) (he:iS e=true) (r:Rel K F d x) (s:Rel K F e y):eqV x y=Jh d e:=by
 cases d <;> simp [iS] at hd <;> cases e <;> simp [iS] at he
 all_goals (first | rw [r.non] | rw [r.bl] | rw [r.int] | rw [r.str]) <;> (first | rw [s.non] | rw [s.bl] | rw [s.int] | rw [s.str])
 all_goals first | rfl | simp [eqV,Jh]
theorem zh {K:Iv} {F:Hp} {d:Iw} {x:V} (hd:iS d=true) (r:Rel K F d x):∀ {ds:List Iw} {vs:List V},ds.all iS=true->RelL K F ds vs->inV x vs=ds.any λ y=>Jh y d
 | [],vs,_,rs=>by rw [rs.nil_of]; rfl
 | e::ds,vs,h,rs=>by
  obtain ⟨y,xs,rfl,r1,r2⟩:=rs.cons_of;rw [J2,JC] at h;have ih:=zh hd r h.2 r2;unfold inV at ih ⊢;rw [JN,JN,ih,Ga h.1 hd r1 r]
noncomputable def pIn (neg:Bool) (x y:Iw):Option Iw:=match y with
 | .list ds=>if iS x=true/\ds.all iS=true then some (.bool (if neg then !(ds.any λ y=>Jh y x) else ds.any λ y=>Jh y x)) else none
 | .tuple ds=>if iS x=true/\ds.all iS=true then some (.bool (if neg then !(ds.any λ y=>Jh y x) else ds.any λ y=>Jh y x)) else none
 | .str j=>match x with
  | .str i=>some (.bool (if neg then !(!(Builtin.Str.occurrences j i 0 j.length 1).isEmpty) else !(Builtin.Str.occurrences j i 0 j.length 1).isEmpty))
  | _=>none
 | _=>none
noncomputable def GV (K:Iv) (neg:Bool):R2:=λ x y H Q=>rIn K neg x y H Q\/(∃ i j,x=.str i/\y=.str j/\Q (.bl (if neg then !(!(Builtin.Str.occurrences j i 0 j.length 1).isEmpty) else !(Builtin.Str.occurrences j i 0 j.length 1).isEmpty)) H)
theorem BU:OpR X (JG .In) (GV X.K false):=op_in_seq.or AH
theorem E5 {K:Iv} {neg:Bool}:Ad2 K (GV K neg) (pIn neg):=λ F H x y dx dy d Q sm rx ry e q=>by
 unfold pIn at e;split at e
 ·split at e
  ·rename_i hf;cases e;obtain ⟨b,ys,rfl,h2,r2⟩:=ry.lst;refine .inl ⟨b,ys,rfl,.inl (sm.seq h2),xf hf.1 rx,vn hf.2 r2,?_⟩;rw [zh hf.1 rx hf.2 r2];exact q _ F H (.refl sm) gz
  ·cases e
 ·split at e
  ·rename_i hf;cases e;obtain ⟨b,ys,rfl,h2,r2⟩:=ry.tup;refine .inl ⟨b,ys,rfl,.inr (dg sm h2),xf hf.1 rx,vn hf.2 r2,?_⟩;rw [zh hf.1 rx hf.2 r2];exact q _ F H (.refl sm) gz
  ·cases e
 ·split at e
  ·cases e;exact .inr ⟨_,_,rx.str,ry.str,q _ F H (.refl sm) gz⟩
  ·cases e
 ·cases e
theorem T.in (ha:E X B a f) (hb:E X B b g) (hm:Jz .In b=false:=by with_unfolding_all rfl):T X B (.Compare a [.In] [b] pos) (bT (l2 (pIn false) f g)):=T.cmp BU E5 hm ha hb
theorem E.in (ha:E X B a f) (hb:E X B b g) (hm:Jz .In b=false:=by with_unfolding_all rfl):E X B (.Compare a [.In] [b] pos) (l2 (pIn false) f g):=E.cmp BU E5 hm ha hb
noncomputable def AdA (K:Iv) (r:List V->Hp->VK->Prop) (o:List Iw->Option Iw):Prop :=
 ∀ F H xs ds d Q,Same F H->RelL K F ds xs->o ds=some d->(∀ v F' H',Gr F H F' H'->Rel K F' d v->Q v H')->r xs H Q
theorem Bl {K:Iv} {r:List V->Hp->VK->Prop} {o:List Iw->Option Iw} (ad:AdA K r o):∀ σ H Q,tE K B (lA o fs) σ H Q->tCB r (tA K B fs) σ H Q:=λ σ H Q ⟨F,η,d,sr,hd,q⟩=>by
 obtain ⟨ds,hx,hd⟩:=ab hd;exact ⟨F,η,ds,sr,hx,λ vs F1 H1 g1 rs=>ad F1 H1 vs ds d Q g1.fh rs hd λ v F2 H2 g2 rv=>q v F2 H2 (g1.trans g2) rv⟩
theorem E.callB {x:Str} {id:String} {r:List V->Hp->VK->Prop} {o:List Iw->Option Iw} (hc:CallR X (.builtin id) r) (ad:AdA X.K r o) (hm:X.mg x=none) (hv:bootBuiltins x=some (.builtin id)) (ha:A X B (e::es) fs) (hg:Gl X x:=by rfl) (hn:x ≠ "__name__" := by decide) (hdb:(x==("__debug__" : Str))=false:=by decide)
  (he:II (e::es) X.env=(false,eval e X.env)::II es X.env:=by exact cg rfl) (hpl:(backTo pos (II es X.env)).any (·.1)=false:=by exact jE rfl):E X B (.Call (.Name x pp) (e::es) [] pos) (lA o fs) :=
 PE.imp (BO hc hg hm hv ha hn hdb he hpl) (Bl ad)
theorem E.callTy {x:Str} {id:String} {r:List V->Hp->VK->Prop} {o:List Iw->Option Iw} (hc:CallR X (.type id) r) (ad:AdA X.K r o) (hm:X.mg x=none) (hv:bootBuiltins x=some (.type id)) (ha:A X B (e::es) fs) (hg:Gl X x:=by rfl) (hn:x ≠ "__name__" := by decide) (hdb:(x==("__debug__" : Str))=false:=by decide)
  (he:II (e::es) X.env=(false,eval e X.env)::II es X.env:=by exact cg rfl) (hpl:(backTo pos (II es X.env)).any (·.1)=false:=by exact jE rfl):E X B (.Call (.Name x pp) (e::es) [] pos) (lA o fs) :=
 PE.imp (AE hc hg hm hv ha hn hdb he hpl) (Bl ad)
noncomputable def tW (ds:List Iw):Option Iw:=match ds with
 | [.list xs]=>some (.int xs.length)
 | [.tuple xs]=>some (.int xs.length)
 | [.str z]=>if z.length<=IB then some (.int z.length) else none
 | _=>none
theorem Gm {K:Iv}:AdA K (λ xs H Q=>(∃ p ys,xs=[.ref p]/\(SqL K H p ys\/SqT K H p ys)/\Q (.int ys.length) H)\/(∃ z,xs=[.str z]/\z.length<=IB/\Q (.int z.length) H)) tW:=λ F H xs ds d Q sm rs e q=>by
 unfold tW at e;split at e
 ·cases e;obtain ⟨x,r,rfl,rx,rr⟩:=rs.cons_of;obtain rfl:=rr.nil_of;obtain ⟨a,ys,rfl,h1,r1⟩:=rx.lst;exact .inl ⟨a,ys,rfl,.inl (sm.seq h1),by rw [r1.length]; exact q _ F H (.refl sm) c6⟩
 ·cases e;obtain ⟨x,r,rfl,rx,rr⟩:=rs.cons_of;obtain rfl:=rr.nil_of;obtain ⟨a,ys,rfl,h1,r1⟩:=rx.tup;exact .inl ⟨a,ys,rfl,.inr (dg sm h1),by rw [r1.length]; exact q _ F H (.refl sm) c6⟩
 ·split at e
  ·rename_i hz;cases e;obtain ⟨x,r,rfl,rx,rr⟩:=rs.cons_of;obtain rfl:=rr.nil_of;exact .inr ⟨_,by rw [rx.str],hz,q _ F H (.refl sm) c6⟩
  ·cases e
 ·cases e
theorem E.len (hm:X.mg "len" = none) (ha:A X B [e] fs) (hg:Gl X "len" := by rfl) (he:II [e] X.env=(false,eval e X.env)::II [] X.env:=by exact cg rfl) (hpl:(backTo pos (II [] X.env)).any (·.1)=false:=by rfl):E X B (.Call (.Name "len" pp) [e] [] pos) (lA tW fs) :=
 E.callB (call_len_seq.or xo) Gm hm PySem.boot_len ha hg (by decide) (by decide) he hpl
noncomputable def AG (ds:List Iw):Option Iw:=match ds with
 | [.list xs]=>some (.tuple xs)
 | [.tuple xs]=>some (.tuple xs)
 | _=>none
theorem Gj {K:Iv}:AdA K (λ xs H Q=>∃ p ys,xs=[.ref p]/\((SqL K H p ys/\∀ l,H l=none->Q (.ref l) (upd H l (.tup ys)))\/(SqT K H p ys/\Q (.ref p) H))) AG:=λ F H xs ds d Q sm rs e q=>by
 unfold AG at e;split at e
 ·cases e;obtain ⟨x,r,rfl,rx,rr⟩:=rs.cons_of;obtain rfl:=rr.nil_of;obtain ⟨a,ys,rfl,h1,r1⟩:=rx.lst;refine ⟨a,ys,rfl,.inl ⟨sm.seq h1,λ p hp=>?_⟩⟩;have g:=Gr.one (o:=.tup ys) sm hp;exact q _ _ _ g (iD (SqT.of aw) (r1.mono g.ff))
 ·cases e;obtain ⟨x,r,rfl,rx,rr⟩:=rs.cons_of;obtain rfl:=rr.nil_of;obtain ⟨a,ys,rfl,h1,r1⟩:=rx.tup;exact ⟨a,ys,rfl,.inr ⟨dg sm h1,q _ F H (.refl sm) (iD h1 r1)⟩⟩
 ·cases e
theorem E.tuple (hm:X.mg "tuple" = none) (ha:A X B [e] fs) (hg:Gl X "tuple" := by rfl) (he:II [e] X.env=(false,eval e X.env)::II [] X.env:=by exact cg rfl) (hpl:(backTo pos (II [] X.env)).any (·.1)=false:=by rfl):E X B (.Call (.Name "tuple" pp) [e] [] pos) (lA AG fs) :=
 E.callTy vX Gj hm (by decide +kernel) ha hg (by decide) (by decide) he hpl
end
end
noncomputable def rZ {α:Type} (xs:List α) (lo hi:Option Int):List α:=(xs.drop (HT.sIx xs.length 0 lo)).take (HT.sIx xs.length xs.length hi - HT.sIx xs.length 0 lo)
section
variable {X:Cx}
theorem RelL.cut {K:Iv} {F:Hp} {ds:List Iw} {xs:List V} (r:RelL K F ds xs) (lo hi:Option Int):RelL K F (rZ ds lo hi) (ub xs lo hi):=by
 unfold rZ ub;rw [r.length];exact (r.drop _).take _
theorem Df:SlR X (λ x lo hi H Q=>∃ a xs,x=.ref a/\SqT X.K H a xs/\(HT.sIx xs.length 0 lo=0/\HT.sIx xs.length xs.length hi=xs.length)/\Q (.ref a) H):=by
 intro pins s σ H x v vl vu lo hi sl Q I rx hs pl pu h;obtain ⟨a,xs,rfl,hx,hw,q⟩:=h;cases rx;obtain ⟨its,r,ht,hz⟩:=I.tuple hx;have hlen:its.toArray.size=xs.length:=by rw [IL]; exact r.length.symm
 refine ⟨"tuple", _,PyProof.Rows.slot_tuple_getitem.lookup,ht.typeIs,?_⟩;obtain ⟨os,hos,hcs,hds⟩:=id hs;have hTs:s.TypeIs (.ref sl) "slice" := ⟨os,hos,hcs⟩;unfold getItem
 try with_reducible refine wpAny_holding ?_
 first | refine IR (Ja ?_) | skip
 refine IR (wpAny_sequenceKey ht.typeIs (by decide) ?_);refine IR (wpAny_callSpecial?_slot (name:=Str.ofString "__getitem__") ht.typeIs PyProof.Rows.slot_tuple_getitem
  (wpAny_call_entry PyProof.Rows.slot_tuple_getitem ht.typeIs entry_tuple_getitem ?_ (args_tuple_getitem _ _)))
 show Jp _ _ (Builtin.Tuple.tupleItemsOf (.ref a) >>= _) _ _ s;refine IR (tupleItemsOf_ ht ?_);refine IR (wpAny_typeOf hTs ?_);rw [if_pos (by decide)];refine IR (HT.sliceApplied_gen hs pl pu ?_);rw [hlen];have hyes:((((HT.sIx xs.length 0 lo:Nat):Int)==0&&(1:Int)==1&&(HT.sIx xs.length xs.length hi - HT.sIx xs.length 0 lo)==xs.length)=true):=by
  rw [hw.1,hw.2]; simp
 show Jp _ _ (if (((HT.sIx xs.length 0 lo:Nat):Int)==0&&(1:Int)==1&&(HT.sIx xs.length xs.length hi - HT.sIx xs.length 0 lo)==xs.length)=true then _ else _) _ _ s;rw [if_pos hyes];have fin:EP X pins σ Q (.ref a) s:=⟨.ref a,H,I,rfl,q⟩;refine IR ?_;unfold Builtin.Tuple.tupleIsExact;refine IR (wpAny_typeOf ht.typeIs (Ja ?_));rw [if_pos (by decide)];exact IR (wpAny_rule (Ja ⟨_,rfl,Ja fin⟩))
noncomputable def pSl (x:Iw) (lo hi:Option Int):Option Iw:=match x with
 | .list ds=>some (.list (rZ ds lo hi))
 | .tuple ds=>some (.tuple (rZ ds lo hi))
 | _=>none
noncomputable def GR (K:Iv):V->Option Int->Option Int->Hp->VK->Prop:=λ x lo hi H Q=>GQ K x lo hi H Q\/GP K x lo hi H Q\/(∃ a xs,x=.ref a/\SqT K H a xs/\(HT.sIx xs.length 0 lo=0/\HT.sIx xs.length xs.length hi=xs.length)/\Q (.ref a) H)
theorem HU:SlR X (GR X.K):=sl_list.or (sl_tup.or Df)
theorem Hv {K:Iv} {F H:Hp} {x:V} {dx d:Iw} {lo hi:Option Int} {Q:VK} (sm:Same F H) (rx:Rel K F dx x) (e:pSl dx lo hi=some d) (q:∀ v F' H',Gr F H F' H'->Rel K F' d v->Q v H'):GR K x lo hi H Q:=by
 unfold pSl at e;split at e
 ·cases e;obtain ⟨a,xs,rfl,h1,r1⟩:=rx.lst;refine .inl ⟨a,xs,rfl,sm.seq h1,λ p hp=>?_⟩;have g:=Gr.one (o:=.lst (ub xs lo hi)) sm hp;exact q _ _ _ g (kB (SqL.of aw) ((r1.cut lo hi).mono g.ff))
 ·cases e;obtain ⟨a,xs,rfl,h1,r1⟩:=rx.tup;by_cases hw:HT.sIx xs.length 0 lo=0/\HT.sIx xs.length xs.length hi=xs.length
  ·refine .inr (.inr ⟨a,xs,rfl,dg sm h1,hw,q _ F H (.refl sm) (iD h1 ?_)⟩)
   have:=r1.cut lo hi
   have e2:ub xs lo hi=xs:=by
    unfold ub;rw [hw.1,hw.2]
    simp
   rw [e2] at this;exact this
  ·refine .inr (.inl ⟨a,xs,rfl,dg sm h1,hw,λ p hp=>?_⟩);have g:=Gr.one (o:=.tup (ub xs lo hi)) sm hp;exact q _ _ _ g (iD (SqT.of aw) ((r1.cut lo hi).mono g.ff))
 ·cases e
section
variable {B:Bd} {a b e:Expr} {es:List Expr} {f g:En->Option Iw} {fs:En->Option (List Iw)} {pos pp p2:Pos} {lo hi:Option Expr} {fl fh:En->Option (Option Int)}
noncomputable def tP (K:Iv) (B:Bd) (f:En->Option (Option Int)):TO:=λ σ H Q=>∃ F η o,SR K B F H σ η/\f η=some o/\∀ F' H',Gr F H F' H'->Q o H'
noncomputable def P (X:Cx) (B:Bd) (e:Option Expr) (f:En->Option (Option Int)):Prop:=PO X e (tP X.K B f)
noncomputable def pN:En->Option (Option Int):=λ _=>some none
noncomputable def asI:Iw->Option Int
 | .int i=>some i
 | _=>none
theorem yF {d:Iw} {i:Int} (h:asI d=some i):d=.int i:=by
 cases d <;> simp [asI] at h;rw [h]
noncomputable def pS (f:En->Option Iw):En->Option (Option Int):=λ η=>(f η).bind λ d=>(asI d).bind λ i=>some (some i)
theorem PO.imp {X:Cx} {e:Option Expr} {t t':TO} (h:PO X e t) (i:∀ σ H Q,t' σ H Q->t σ H Q):PO X e t':=λ pins s σ H Q I q=>h pins s σ H Q I (i σ H Q q)
theorem P.none:P X B none pN:=PO.imp Dw λ σ H Q ⟨F,η,d,sr,hd,q⟩=>by
 cases hd;exact q F H (.refl sr.same)
theorem P.some (h:E X B e f):P X B (some e) (pS f):=PO.imp (Dv h) λ σ H Q ⟨F,η,d,sr,hd,q⟩=>by
 obtain ⟨x,hx,hd⟩:=ab hd;obtain ⟨i,hi,hd⟩:=ab hd;cases hd;obtain rfl:=yF hi;exact ⟨F,η,_,sr,hx,λ v F1 H1 g1 rv=>⟨i,rv.int,q F1 H1 g1⟩⟩
noncomputable def eSl (f:En->Option Iw) (fl fh:En->Option (Option Int)):En->Option Iw:=λ η=>(f η).bind λ x=>(fl η).bind λ l=>(fh η).bind λ h=>pSl x l h
theorem E.sl (he:E X B e f) (hl:P X B lo fl) (hu:P X B hi fh):E X B (.Subscript e (.Slice lo hi none p2) pos) (eSl f fl fh):=PE.imp (BE HU he hl hu) λ σ H Q ⟨F,η,d,sr,hd,q⟩=>by
 obtain ⟨x,hx,hd⟩:=ab hd;obtain ⟨l,hl,hd⟩:=ab hd;obtain ⟨h,hh,hd⟩:=ab hd;refine ⟨F,η,x,sr,hx,λ v F1 H1 g1 rv=>⟨F1,η,l,sr.grow g1,hl,λ F2 H2 g2=>⟨F2,η,h,(sr.grow g1).grow g2,hh,λ F3 H3 g3=>?_⟩⟩⟩;exact Hv g3.fh (rv.mono (g2.ff.trans g3.ff)) hd λ w F4 H4 g4 rw'=>q w F4 H4 (((g1.trans g2).trans g3).trans g4) rw'
noncomputable def GO (K:Iv):List V->Hp->VK->Prop:=λ xs H Q=>∃ (p:IS) (ns:List Int),xs=[.ref p]/\SqL K H p (ns.map V.int)/\Q (.int ns.sum) H
theorem uL:∀ (ns:List Int) (n:Nat),n<=ns.length->preSum (λ i=>ns.getD i 0) n=(ns.take n).sum
 | ns,0,_=>by simp [preSum]
 | ns,n+1,h=>by
  have hn:n < ns.length:=by omega
  rw [preSum,uL ns n (by omega),List.take_succ_eq_append_getElem hn,List.sum_append];show _+ns.getD n 0=_;rw [Jn,Jb hn]
  simp
theorem CC (hc:X.calm=true):CallR X (.builtin "sum") (GO X.K):=by
 intro pins s σ H xs us Q I r h;obtain ⟨p,ns,rfl,hq,q⟩:=h;obtain ⟨u,rfl,rx⟩:=oY r;cases rx;obtain ⟨its,rv,pl,hz⟩:=I.list hq;have iv:IntsAre its ns:=zg rv;have hlt:p < s.heap.objs.size:=by
  obtain ⟨o,ho,_⟩:=pl.isList;exact IU ho
 refine call_sum_walkG (wpAny_pyIter_list pl.isList ?_);refine ⟨s.heap.objs.size,_,_,_,_,_,λ i=>ns.getD i 0,rfl,Walks.list (A:=X.A.in1) (I.ok.hd hc) s.heap.objs.size p (Je hlt) its.toArray,⟨⟨_,Jf _ rfl,rfl,rfl⟩,pl.isList.at λ o e=>IK _ e⟩,?_,?_,λ h' tk t' hk=>?_⟩
 ·intro b hb;show b < (s.heap.push _).objs.size;rw [Heap.size_push];rcases IY.mp hb with e | hb
  ·rw [e]; exact Kc _
  ·rw [Jc.mp hb]; exact Nat.lt_succ_of_lt hlt
 ·intro i v hv;have hv':its[i]?=some v:=by simpa using hv
  obtain ⟨hi,e⟩:=ID.mp hv';have hl:=rv.length;rw [Iy] at hl;have hn:ns[i]?=some ns[i]:=Jb (by omega);obtain ⟨u,hu,ru⟩:=rv.get (i:=i) (x:=.int ns[i]) (by rw [IP,hn]; rfl);rw [hv'] at hu;cases hu;obtain ⟨t,rfl⟩:=ru;exact ⟨t,by show Value.int ns[i] t=Value.int (ns.getD i 0) t; rw [Jn,hn]; rfl⟩
 ·have hl:=rv.length;rw [Iy] at hl;have e:preSum (λ i=>ns.getD i 0) its.toArray.size=ns.sum:=by
   rw [IL,uL ns _ (by omega),Ks (by omega)]
  rw [e];refine ⟨.int ns.sum,H,I.kept (t':=tk) λ b o eb=>hk b o ?_ (IK _ eb),⟨t',rfl⟩,q⟩;intro hb;exact absurd (IU eb) (by rw [Jc.mp hb]; exact JW _)
noncomputable def CH:List Iw->Option (List Int)
 | []=>some []
 | .int i::r=>(CH r).bind λ ns=>some (i::ns)
 | _::_=>none
theorem wx:∀ {ds:List Iw} {ns:List Int},CH ds=some ns->ds=ns.map Jm
 | [],ns,h=>by cases h; rfl
 | .int i::r,ns,h=>by
  obtain ⟨ms,h1,h2⟩:=ab h;cases h2;rw [wx h1]; rfl
 | .none::_,_,h=>by cases h
 | .bool _::_,_,h=>by cases h
 | .str _::_,_,h=>by cases h
 | .list _::_,_,h=>by cases h
 | .tuple _::_,_,h=>by cases h
 | .dict _::_,_,h=>by cases h
theorem A5 (ns:List Int):CH (ns.map Jm)=some ns:=by
 induction ns with
 | nil=>rfl
 | cons n r ih=>rw [IN]; unfold CH; rw [ih]; rfl
theorem RelL.ints_of {K:Iv} {F:Hp}:∀ {ns:List Int} {xs:List V},RelL K F (ns.map Jm) xs->xs=ns.map V.int
 | [],xs,h=>h.nil_of
 | n::r,xs,h=>by
  obtain ⟨x,ys,rfl,h1,h2⟩:=h.cons_of;rw [h1.int,RelL.ints_of h2]; rfl
noncomputable def wP (ds:List Iw):Option Iw:=match ds with
 | [.list xs]=>(CH xs).bind λ ns=>some (.int ns.sum)
 | _=>none
theorem Gk {K:Iv}:AdA K (GO K) wP:=λ F H xs ds d Q sm rs e q=>by
 unfold wP at e;split at e
 ·obtain ⟨ns,h1,h2⟩:=ab e;cases h2
  have:=wx h1
  subst this;obtain ⟨x,r,rfl,rx,rr⟩:=rs.cons_of;obtain rfl:=rr.nil_of;obtain ⟨a,ys,rfl,hq,r1⟩:=rx.lst
  have:=r1.ints_of
  subst this;exact ⟨a,ns,rfl,sm.seq hq,q _ F H (.refl sm) c6⟩
 ·cases e
theorem E.sum (hc:X.calm=true) (hm:X.mg "sum" = none) (ha:A X B [e] fs) (hg:Gl X "sum" := by rfl) (he:II [e] X.env=(false,eval e X.env)::II [] X.env:=by exact cg rfl) (hpl:(backTo pos (II [] X.env)).any (·.1)=false:=by rfl):E X B (.Call (.Name "sum" pp) [e] [] pos) (lA wP fs) :=
 E.callB (CC hc) Gk hm (by decide +kernel) ha hg (by decide) (by decide) he hpl
theorem wY (l b:IS) (items items2:Array IE) (n n2:Nat) (dd2:Option IS) (sl2:Array (Option IE)) (hc0:¬(!items.isEmpty&&Builtin.List.listTooLong (items.size+items2.size))=true) (hc1:items.size<=IB) (hs2:items.size+items2.size<=IB+1) :
  Meets (Builtin.«list.extend» ⟨[.ref l,.ref b],[]⟩) (λ _ R s=>s.heap.get? l=some { cls:=.type "list", dict:=none,data:=.seq items n,slots:=#[] }/\s.heap.get? b=some { cls:=.type "list", dict:=dd2,data:=.seq items2 n2,slots:=sl2 }/\R (.ok (.ret Value.none)) { s with heap:=s.heap.update l (Obj.mapSeq λ x=>x++items2),toks:=s.toks }) :=
 .of_wp λ prog w A R s h=>by
  obtain ⟨hp,g,d,tk,os⟩:=s; obtain ⟨hl,hb,h⟩:=h; have f1:=AutoSeq1.idx_int; have f2:=AutoSeq1.sub_tuple_tuple; have f3:=AutoSeq1.sub_list_list; have f4:=AutoSeq1.sub_tuple_list; have f5:=AutoSeq1.sub_list_tuple;have hz':(items++items2).size<=IB+1:=by rw [Array.size_append]; exact hs2
  wp_walk using (wpAny_updateSeq hl rfl (hz:=hc1) (_hz':=hz')),AutoSeq1.wpAny_loadPart' hl,AutoSeq1.wpAny_loadPart' hb; exact ⟨_,rfl,h⟩
noncomputable def GW (K:Iv):V->List V->Hp->VK->Prop:=λ x vs H Q=>∃ l b xs zs,x=.ref l/\vs=[.ref b]/\H l=some (.lst xs)/\SqL K H b zs/\xs.length+zs.length<=IB/\Q .non (upd H l (.lst (xs++zs)))
theorem z5:MtM X "list.extend" (GW X.K):=by
 intro pins s σ H x vs v us Q I rx rv h;obtain ⟨l,b,xs,zs,rfl,rfl,hH,hB,hz,q⟩:=h;cases rx;obtain ⟨u,rfl,ru⟩:=rv.one;cases ru;obtain ⟨z,its,n,r,hl,e⟩:=I.lstM hH;obtain ⟨its2,r2,⟨⟨c2,d2,t2,sl2⟩,n2,e2,ec2,ed2,es2⟩,z2⟩:=I.list hB;simp only at ec2 ed2 es2;subst ec2 ed2 es2;have hl2:=r2.length;have hsz:its.toArray.size+its2.toArray.size<=IB:=by rw [IL,IL]; omega
 have hlong:¬ (!its.toArray.isEmpty&&Builtin.List.listTooLong (its.toArray.size+its2.toArray.size))=true:=by
  rw [BW hsz,Bool.and_false];exact IT
 refine call_meets F.slot_list_extend ⟨_,e,rfl⟩ F.entry_list_extend (F.args_list_extend_2 _ _)
  (wY l b its.toArray its2.toArray n n2 none sl2 hlong (by rw [IL]; omega) (by omega)) ⟨e,e2,?_⟩
 refine ⟨.non,_,I.lset (its':=its++its2) hH e (by simp) (r.append r2) ?_,rfl,q⟩;rw [IA];omega
variable {apos cpos:Pos}
theorem S.ext (i:Nat) {x:Str} {npos:Pos} (he:E X B e f) (hN:X.N[i]?=some x:=by rfl) (hv:Vis X.env.scope x:=by first | exact Or.inl rfl | exact Or.inr (Or.inl rfl) | exact Or.inr (Or.inr rfl)) (hd:(x==("__debug__" : Str))=false:=by decide) (hcd:(x==("__classdict__" : Str))=false:=by decide)
  (hbase:attributeBase (.Name x npos) "extend" X.env (eval (.Name x npos) X.env)=eval (.Name x npos) X.env:=by rfl)
  (hfew:((backTo cpos (II [e] X.env)).all (λ x=>!x.1)&&(backToKw cpos (keywordEach [] X.env)).all (λ x=>x.1.isSome)
   && decide ([e].length+([]:List Keyword).length+(if ([]:List Keyword).isEmpty then 0 else 1) < 30))=true:=by rfl)
  (hline:(apos.endLine==cpos.line)=true:=by rfl) (hs:II [e] X.env=(false,eval e X.env)::II [] X.env:=by exact cg rfl) (hplain:(backTo cpos (II [] X.env)).any (·.1)=false:=by rfl)
  (hsw:swapsWith (.Call (.Attribute (.Name x npos) "extend" apos) [e] [] cpos) none pos.line X.env=pure false:=by rfl) :
  S X B (.Expr (.Call (.Attribute (.Name x npos) "extend" apos) [e] [] cpos) pos) (uI i (lI asL f)) :=
 PS.imp (wK (zS PySem.F.plainAttrs_list PySem.F.slot_list_extend PySem.F.type_list_extend z5 (qM hN hv hd hcd) (ac he ak hs) hbase hfew hline hs hplain) hsw) λ D σ H ⟨F,η,o,sr,hd,q⟩=>by
  obtain ⟨es,h1,hd⟩:=ab hd;split at hd
  ·rename_i ds ed;split at hd
   ·rename_i hz;cases hd;obtain ⟨dl,h2,h3⟩:=ab h1;cases dl <;> simp only [asL,Option.some.injEq,reduceCtorEq] at h3;subst h3;obtain ⟨p,xs,e1,e2,e3,e4,e5⟩:=sr.en.own i ds ed;refine ⟨_,e1,.inl ⟨rfl,xs,SqL.of e4⟩,F,η,_,sr,(by show (f η).bind _=_; rw [h2]; rfl),λ vs F1 H1 g1 rs=>?_⟩;obtain ⟨y,r,rfl,ry,rr⟩:=rs.cons_of;obtain rfl:=rr.nil_of;obtain ⟨b,zs,rfl,hq,r1⟩:=ry.lst;have sr1:=sr.grow g1;obtain ⟨p',xs',q1,q2,q3,q4,q5⟩:=sr1.en.own i ds ed;rw [e1] at q1;have ep:p=p':=by injection (Option.some.inj (Option.some.inj q1))
    subst ep;refine ⟨p,b,xs',zs,rfl,rfl,q4,g1.fh.seq hq,by rw [q5.length,r1.length]; exact hz,?_⟩;refine q σ F1 _ ⟨⟨sr1.gr.ff,λ c u z=>?_,λ c u z=>?_,sr1.gr.new⟩,sr1.en.putOwn ed e1 (q5.append r1)⟩ g1.ff
    ·have nb:c≠p:=aB z q3;rw [am nb]; exact sr1.gr.hh c u z
    ·have nb:c≠p:=aB z q2;rw [am nb]; exact sr1.gr.fh c u z
   ·cases hd
  ·cases hd
theorem S.app (i:Nat) {x:Str} {npos:Pos} (he:E X B e f) (hN:X.N[i]?=some x:=by rfl) (hv:Vis X.env.scope x:=by first | exact Or.inl rfl | exact Or.inr (Or.inl rfl) | exact Or.inr (Or.inr rfl)) (hd:(x==("__debug__" : Str))=false:=by decide) (hcd:(x==("__classdict__" : Str))=false:=by decide)
  (hbase:attributeBase (.Name x npos) "append" X.env (eval (.Name x npos) X.env)=eval (.Name x npos) X.env:=by rfl)
  (hfew:((backTo cpos (II [e] X.env)).all (λ x=>!x.1)&&(backToKw cpos (keywordEach [] X.env)).all (λ x=>x.1.isSome)
   && decide ([e].length+([]:List Keyword).length+(if ([]:List Keyword).isEmpty then 0 else 1) < 30))=true:=by rfl)
  (hline:(apos.endLine==cpos.line)=true:=by rfl) (hs:II [e] X.env=(false,eval e X.env)::II [] X.env:=by exact cg rfl) (hplain:(backTo cpos (II [] X.env)).any (·.1)=false:=by rfl)
  (hsw:swapsWith (.Call (.Attribute (.Name x npos) "append" apos) [e] [] cpos) none pos.line X.env=pure false:=by rfl) :
  S X B (.Expr (.Call (.Attribute (.Name x npos) "append" apos) [e] [] cpos) pos) (Bq i f) :=
 PS.imp (wK (zS PySem.F.plainAttrs_list PySem.F.slot_list_append PySem.F.type_list_append sC (qM hN hv hd hcd) (ac he ak hs) hbase hfew hline hs hplain) hsw) λ D σ H ⟨F,η,o,sr,hd,q⟩=>by
  obtain ⟨dv,h1,hd⟩:=ab hd;split at hd
  ·rename_i ds ed;split at hd
   ·rename_i hz;cases hd;obtain ⟨p,xs,e1,e2,e3,e4,e5⟩:=sr.en.own i ds ed;refine ⟨_,e1,.inl ⟨rfl,xs,SqL.of e4⟩,F,η,_,sr,(by show (f η).bind _=_; rw [h1]; rfl),λ vs F1 H1 g1 rs=>?_⟩;obtain ⟨y,r,rfl,ry,rr⟩:=rs.cons_of;obtain rfl:=rr.nil_of;have sr1:=sr.grow g1;obtain ⟨p',xs',q1,q2,q3,q4,q5⟩:=sr1.en.own i ds ed;rw [e1] at q1;have ep:p=p':=by injection (Option.some.inj (Option.some.inj q1))
    subst ep;refine ⟨p,xs',y,rfl,rfl,q4,by rw [q5.length]; exact hz,?_⟩;refine q σ F1 _ ⟨⟨sr1.gr.ff,λ c u z=>?_,λ c u z=>?_,sr1.gr.new⟩,sr1.en.putOwn ed e1 (q5.append (.cons ry .nil))⟩ g1.ff
    ·have nb:c≠p:=aB z q3;rw [am nb]; exact sr1.gr.hh c u z
    ·have nb:c≠p:=aB z q2;rw [am nb]; exact sr1.gr.fh c u z
   ·cases hd
  ·cases hd
end
end
noncomputable def wb (x:Str):List Iw:=x.cps.toList.map λ c=>PyData.str ⟨#[c]⟩
noncomputable def kS (ds:List Iw) (i:Nat):List Iw:=match ds with
 | []=>[]
 | d::r=>.tuple [.int i,d]::kS r (i+1)
theorem sN:∀ (ds:List Iw) (k i:Nat) (d:Iw),(kS ds k)[i]?=some d->∃ c,ds[i]?=some c/\d=.tuple [.int ((k+i:Nat):Int),c]
 | [],k,i,d,h=>by simp [kS] at h
 | c::r,k,0,d,h=>by
  simp [kS] at h;exact ⟨c,rfl,h.symm⟩
 | c::r,k,i+1,d,h=>by
  have h':(kS r (k+1))[i]?=some d:=by simpa [kS] using h
  obtain ⟨c',h1,h2⟩:=sN r (k+1) i d h';exact ⟨c',by simpa using h1,by rw [h2,show k+1+i=k+(i+1) by omega]⟩
theorem p9:∀ (ds:List Iw) (k:Nat),(kS ds k).length=ds.length
 | [],_=>rfl
 | _::r,k=>by rw [kS,IX,IX,p9 r]
noncomputable def Ite (x:Str):It:=⟨λ i _=>i < x.cps.size,λ i H v H'=>∃ T c,H T=none/\x.cps[i]?=some c/\v=.ref T/\H'=upd H T (.tup [.int (i:Nat),.str ⟨#[c]⟩]),λ i _=>i=x.cps.size⟩
section
theorem v9 {P:Jg} {w:World} {K:Iv} {elts:List Expr} {k:Nat} {tp:Pos} {e it:IS} {x:Str} {St:Nat->Heap->Prop} (hei:e≠it)
  (D:∀ A:JH,A.handled=none->Draws P w A it [it] x.cps.size (λ i v=>∃ c u,x.cps[i]?=some c/\v=.str ⟨#[c]⟩ u) St) (hcell:∀ i h,St i h->∃ o,h.get? it=some o/\∀ v,o.data≠.cell v) :
  Turn P w K (.Tuple elts k tp) (Ite x) [e,it] e (λ i h=>(∃ old,IsEnum h e it i old)/\St i h) where
 mem:=by simp
 obj:=λ i h st b hb=>by
  obtain ⟨⟨old,he⟩,hs⟩:=st;rcases IY.mp hb with rfl | hb
  ·exact ⟨_,he,λ v z=>by cases z⟩
  ·rw [Jc.mp hb];exact hcell i h hs
 keep:=λ i h h' st kk=>by
  obtain ⟨⟨old,he⟩,hs⟩:=st;refine ⟨⟨old,kk e (by simp) _ he⟩,?_⟩;exact (D { frames:=none,units:=0,depth:=0,handled:=none } rfl).frame i h h' hs λ b hb o q=>kk b (by rw [Jc.mp hb]; simp) o q
 item:=by
  intro X hP hw hK hc i pins s σ H E I hf st hg;subst hP hw hK;have W:=WalksT.enumerateD (prog:=X.prog) (w:=X.w) (A:=X.A) (D X.A.in1 (I.ok.hd hc)) e hei (by simpa using hei) (by simp);refine W.item i s _ _ hg st λ T vals h' tk Pt hT hIs Md kp=>⟨.ref T,rfl,?_⟩;refine W.go elts k tp i T _ _ _ Md λ h'' st'' kp''=>?_;obtain ⟨t,xv,⟨c,u,hcx,rfl⟩,rfl⟩:=Pt;have nT:H T=none:=I.hok.fresh hT;have aT:T∉[e,it]:=W.apart i T _ Md;have kall:∀ b o,b∉[e,it]->s.heap.get? b=some o->h''.get? b=some o:=λ b o hb q=>kp'' b o hb (kp b o hb q);have hIs'':IsTup h'' T #[.int i t,.str ⟨#[c]⟩ u]:=by
   obtain ⟨o,ho,hcl,n,hd⟩:=hIs;exact ⟨o,kp'' T o aT ho,hcl,n,hd⟩
  have ltT:∀ b o,s.heap.get? b=some o->b≠T:=λ b o q=>Je (IV (IU q) hT);have nfp:∀ b o,H b=some o->b∉[e,it]:=λ b o q hb=>by rw [(hf b hb).1] at q; cases q
  have J:Inv X pins σ (upd H T (.tup [.int (i:Nat),.str ⟨#[c]⟩])) { s with heap:=h'',toks:=tk }:=by
   refine I.step (h':=h'') (g':=s.gens) (d':=s.drawn) (t':=tk) (ch:=[e,it]) (λ b hb=>⟨(hf b hb).2.2.2.1,(hf b hb).2.1,(hf b hb).2.2.2.2.1,(hf b hb).2.2.2.2.2⟩)
    (λ b o _ _ hb q _=>kall b o hb q) (λ b o _ _ hb q _=>⟨o.slots,kall b o hb q⟩) (λ b o _ q n=>by rw [am (ltT b o q)]; exact n) (λ b o hb q=>⟨o,kall b o hb q⟩)
    (λ b xs q=>by rw [am (aB q nT)]; exact q) (λ b o xs q=>by rw [am (aB q nT)]; exact q) (λ b ps q=>⟨#[],by rw [am (aB q nT),q]; simp⟩) (λ m hm=>?_) (λ b o q=>?_) I.bare
   ·obtain ⟨o,es,ep,ho,r⟩:=hm;refine ⟨o,es,ep,kall _ o (λ hb=>?_) ho,r⟩;exact (hf _ hb).2.1 rfl
   ·by_cases hb:b=T
    ·subst hb;rw [aw] at q;cases q;exact ⟨by show 2<=IB; decide,[.int i t,.str ⟨#[c]⟩ u],.cons ⟨t,rfl⟩ (.cons ⟨u,rfl⟩ .nil),hIs''⟩
    ·rw [am hb] at q;refine (I.hok b o q).stay (λ c' v hc' z=>kall c' v ?_ z) (λ c' z=>by rw [am (aB z nT)]; exact z) λ c' xs z=>by rw [am (aB z nT)]; exact z
     rcases hc' with rfl | hc'
     ·exact nfp _ _ q
     ·exact nfp _ _ hc'
  refine ⟨.ref T,upd H T (.tup [.int (i:Nat),.str ⟨#[c]⟩]),J,rfl,⟨T,c,nT,hcx,rfl,rfl⟩,st'',λ b hb=>?_⟩;have nb:b≠T:=λ z=>aT (by rw [<- z]; exact hb);rw [am nb]; exact (hf b hb).1
 done:=by
  intro X hP hw hK hc i pins s σ H E I hf st hg;subst hP hw hK;have W:=WalksT.enumerateD (prog:=X.prog) (w:=X.w) (A:=X.A) (D X.A.in1 (I.ok.hd hc)) e hei (by simpa using hei) (by simp);have hg':i=x.cps.size:=hg;rw [hg'] at st;refine W.done s _ _ st λ h' tk kp=>⟨rfl,?_⟩;have nfp:∀ b o,H b=some o->b∉[e,it]:=λ b o q hb=>by rw [(hf b hb).1] at q; cases q
  refine I.step (h':=h') (g':=s.gens) (d':=s.drawn) (t':=tk) (ch:=[e,it]) (λ b hb=>⟨(hf b hb).2.2.2.1,(hf b hb).2.1,(hf b hb).2.2.2.2.1,(hf b hb).2.2.2.2.2⟩)
   (λ b o _ _ hb q _=>kp b o hb q) (λ b o _ _ hb q _=>⟨o.slots,kp b o hb q⟩) (λ _ _ _ _ n=>n) (λ b o hb q=>⟨o,kp b o hb q⟩)
   (λ _ _ q=>q) (λ _ _ _ q=>q) (λ b ps q=>⟨#[],by rw [q]; simp⟩) (λ m hm=>?_) (λ b o q=>?_) I.bare
  ·obtain ⟨o,es,ep,ho,r⟩:=hm;exact ⟨o,es,ep,kp _ o (λ hb=>(hf _ hb).2.1 rfl) ho,r⟩
  ·refine (I.hok b o q).stay (λ c' v hc' z=>kp c' v ?_ z) (λ _ z=>z) λ _ _ z=>z;rcases hc' with rfl | hc'
   ·exact nfp _ _ q
   ·exact nfp _ _ hc'
 self:=λ A i s Q E st h=>by
  obtain ⟨⟨old,he⟩,hs⟩:=st;exact wpAny_pyIter_enum he h
variable {X:Cx} {B:Bd} {a:Expr} {fs:En->Option (List Iw)} {pos pp:Pos}
noncomputable def enS (ds:List Iw):Option (List Iw):=match ds with
 | [.str x]=>some (kS (wb x) 0)
 | _=>none
theorem yi {K:Iv} {F:Hp} {x:Str}:ItP K (Ite x) F (kS (wb x) 0):=λ F1 H1 i s1 s2=>by
 have hl:(kS (wb x) 0).length=x.cps.size:=by rw [p9]; unfold wb; rw [Iy,Array.length_toList]
 refine ⟨λ d e=>?_,λ e=>by show i=_; rw [e,hl]⟩;have hi:i < x.cps.size:=by rw [<- hl]; exact (ID.mp e).1
 refine ⟨hi,λ v H2 y=>?_⟩;obtain ⟨T,c,hT,hc,rfl,rfl⟩:=y;obtain ⟨cd,h1,h2⟩:=sN _ _ _ _ e
 have:cd=.str ⟨#[c]⟩:=by
  unfold wb at h1;rw [IP] at h1;have hc':x.cps.toList[i]?=some c:=by simpa using hc
  rw [hc'] at h1;exact (Option.some.inj h1).symm
 subst this;rw [Nat.zero_add] at h2;subst h2;have g:=Gr.one (o:=.tup [.int (i:Nat),.str ⟨#[c]⟩]) s2 hT;exact ⟨_,g,iD (SqT.of aw) (.cons c6 (.cons n5 .nil))⟩
theorem I.enum {elts:List Expr} {k:Nat} {tp:Pos} (hc:X.calm=true) (hm:X.mg "enumerate" = none) (ha:A X B [a] fs) (hg:Gl X "enumerate" := by rfl) (hs:II [a] X.env=[(false,eval a X.env)]:=by exact cg rfl) :
  I X B (.Tuple elts k tp) (.Call (.Name "enumerate" pp) [a] [] pos) (λ η=>(fs η).bind enS):=by
 intro pins s σ H R I ⟨F,η,ds,sr,hd,q⟩;obtain ⟨es,h1,hd⟩:=ab hd;unfold enS at hd;split at hd
 ·rename_i x;cases hd;refine Call_ (qT I hg hm boot_enumerate (PyProof.Rows.callWith_type1 (thn (ha pos pins s σ H (λ vs H1=>∃ F',Gr F H F' H1/\RelL X.K F' [.str x] vs) I ⟨F,η,_,sr,h1,λ vs F' H' g r=>⟨F',g,r⟩⟩) λ us s1 ⟨vs,H1,I1,r1,F1,g1,rl⟩=>?_) hs rfl));obtain ⟨y,r,rfl,ry,rr⟩:=rl.cons_of;obtain rfl:=rr.nil_of;obtain ⟨u,rfl,ru⟩:=oY r1;rw [ry.str] at ru;obtain ⟨t,rfl⟩:=ru;refine call_enumerate_str λ h' he hit hsz hk=>?_;refine wpAny_pyIter_enum he ?_;have I2:Inv X pins σ H1 { s1 with heap:=h' }:=I1.kept (t':=s1.toks) hk;have nw:∀ b,s1.heap.objs.size<=b->pZ X pins H1 b:=λ b hb=>I1.fpOk hb (I1.hok.fresh hb);have fpo:∀ b∈[s1.heap.objs.size+1,s1.heap.objs.size],pZ X pins H1 b:=λ b hb=>by
   rcases IY.mp hb with rfl | hb
   ·exact nw _ (Nat.le_succ _)
   ·rw [Jc.mp hb]; exact nw _ (IF _)
  have cel:∀ (ty:String) (i:Nat) (h:Heap),h.IsStrIter s1.heap.objs.size ty x t i->∃ o,h.get? s1.heap.objs.size=some o/\∀ v,o.data≠.cell v:=λ ty i h st=>by
   obtain ⟨o,ho,hcl,hd⟩:=st;exact ⟨o,ho,λ v z=>by rw [hd] at z; cases z⟩
  cases ha':x.cps.all (· < 128)
  ·have hit':h'.IsStrIter s1.heap.objs.size "str_iterator" x t 0:=by simpa [strIterType,ha'] using hit
   exact ⟨_,_,_,_,H1,rfl,I2,v9 (Nat.succ_ne_self _) (λ A hA=>Draws.strWide hA _ x t) (cel _),⟨⟨_,he⟩,hit'⟩,fpo,q _ F1 H1 g1 yi⟩
  ·have hit':h'.IsStrIter s1.heap.objs.size "str_ascii_iterator" x t 0:=by simpa [strIterType,ha'] using hit
   exact ⟨_,_,_,_,H1,rfl,I2,v9 (Nat.succ_ne_self _) (λ A hA=>Draws.strAscii hA _ x t) (cel _),⟨⟨_,he⟩,hit'⟩,fpo,q _ F1 H1 g1 yi⟩
 ·cases hd
end
theorem Dc {a b:Str} (h:a.cps.toList=b.cps.toList):a=b:=by
 obtain ⟨a⟩:=a;obtain ⟨b⟩:=b
 have:a=b:=Array.toList_inj.mp h
 rw [this]
section
variable {X:Cx}
variable {B:Bd} {a b e:Expr} {es:List Expr} {f g:En->Option Iw} {fs:En->Option (List Iw)} {pos pp apos cpos:Pos}
end
noncomputable def xj (N:List Str) (sc scope:Scope) (N':List Str) (mp:List (Option Nat)):Bool :=
 decide (scope.kind=.function)&&decide (sc.kind=.function)&&decide (∀ x∈scope.names,x.2≠.cell)&&decide (∀ x∈scope.names,x.2=.local->scope.names.lookup x.1=some .local) &&
 decide (∀ x∈scope.names,x.2=.free->sc.names.lookup x.1=some .cell)&&decide (mp.length=N'.length) &&
 (N'.zip mp).all λ p=>match p.2 with
  | none=>true
  | some j=>decide (N[j]?=some p.1)&&decide (scope.names.lookup p.1=some .free)
theorem li {env:Env} (hk:env.scope.kind=.function):∀ {names:List (Str×NameKind)} {x:Str},names.lookup x=some .free->env.kindOf x=some .cell ->
  (names.map λ (n,k)=>if (k==NameKind.free&&env.scope.kind==.function&&env.kindOf n==some .cell) then (n,NameKind.cell) else (n,k)).lookup x=some .cell
 | [],_,h,_=>by simp at h
 | (n,k)::r,x,h,hc=>by
  have ih:=@li env hk r x;show Ka x ((if (k==NameKind.free&&env.scope.kind==.function&&env.kindOf n==some .cell)=true then (n,NameKind.cell) else (n,k))::_)=_;cases hx:x==n with
  | true =>
   have en:x=n:=by simpa using hx
   subst en;simp only [JY,hx] at h;cases h;rw [if_pos (by rw [hk,hc]; rfl)];simp [JY]
  | false =>
   simp only [JY,hx] at h
   split <;> simp only [JY,hx] <;> exact ih h hc
theorem CompSc.of {X:Cx} {scope:Scope} {N':List Str} {mp:List (Option Nat)} (h:xj X.N X.env.scope scope N' mp=true):CompSc X scope N' mp:=by
 unfold xj at h;simp only [JC,decide_eq_true_eq] at h;obtain ⟨⟨⟨⟨⟨⟨h1,h0⟩,h2⟩,h3⟩,h4⟩,h5⟩,h6⟩:=h;refine ⟨h1,h2,h3,λ x hx hf=>.inl (h4 x hx hf),h5,λ i x j e1 e2=>?_⟩;have hm:(x,some j)∈N'.zip mp:=by
  have:(N'.zip mp)[i]?=some (x,some j):=by rw [List.getElem?_zip_eq_some]; exact ⟨e1,e2⟩
  exact KB this
 have h7:=List.all_eq_true.mp h6 _ hm;simp only [JC,decide_eq_true_eq] at h7;have hmem:(x,NameKind.free)∈scope.names:=PySem.mem_of_lookup h7.2;exact ⟨h7.1,hmem,.inl (li h0 h7.2 (h4 _ hmem rfl))⟩
theorem dG {X:Cx} {B:Bd} {x:Str} {i:Int} {t:Tok} {pos:Pos} (hm:X.mg x=some (.int i t)) (hg:Gl X x:=by rfl) (hd:(x==("__debug__" : Str))=false:=by decide):E X B (.Name x pos) (eC (.int i)):=E.glob hm (v:=.int i) ⟨t,rfl⟩ (λ _=>c6) hg hd
theorem E.globS {X:Cx} {B:Bd} {x:Str} {i:Str} {t:Tok} {pos:Pos} (hm:X.mg x=some (.str i t)) (hg:Gl X x:=by rfl) (hd:(x==("__debug__" : Str))=false:=by decide):E X B (.Name x pos) (eC (.str i)):=E.glob hm (v:=.str i) ⟨t,rfl⟩ (λ _=>n5) hg hd
theorem C8 {t:En->Iw->Option En}:∀ η ds η',aO t gi η ds=some η'->ds.length=1:=λ η ds η' h=>by
 match ds,h with
 | [_],_=>rfl
 | _::_::_,h=>obtain ⟨_,_,h⟩:=ab h; cases h
theorem lz {t u:En->Iw->Option En}:∀ η ds η',aO t (aO u gi) η ds=some η'->ds.length=2:=λ η ds η' h=>by
 match ds,h with
 | d::r,h =>
  obtain ⟨η1,_,h⟩:=ab h;rw [IX,C8 _ _ _ h]
theorem a6 {X:Cx} {scope:Scope} {N':List Str} {mp:List (Option Nat)} (N:List Str) (sc:Scope) (hN:X.N=N) (hs:X.env.scope=sc) (h:xj N sc scope N' mp=true):CompSc X scope N' mp:=CompSc.of (by rw [hN,hs]; exact h)
section
variable {X:Cx}
variable {B:Bd} {a b e:Expr} {es:List Expr} {f g:En->Option Iw} {fs:En->Option (List Iw)} {pos pp tp apos cpos pos':Pos} {sts:List Stmt} {u:En->Option Out} {p:En->Option Bool}
noncomputable def CI:List Iw->Option (List Bool)
 | []=>some []
 | .bool i::r=>(CI r).bind λ ns=>some (i::ns)
 | _::_=>none
theorem wy:∀ {ds:List Iw} {ns:List Bool},CI ds=some ns->ds=ns.map PyData.bool
 | [],ns,h=>by cases h; rfl
 | .bool i::r,ns,h=>by
  obtain ⟨ms,h1,h2⟩:=ab h;cases h2;rw [wy h1]; rfl
 | .none::_,_,h=>by cases h
 | .str _::_,_,h=>by cases h
 | .int _::_,_,h=>by cases h
 | .list _::_,_,h=>by cases h
 | .tuple _::_,_,h=>by cases h
 | .dict _::_,_,h=>by cases h
theorem zt (ns:List Bool):CI (ns.map PyData.bool)=some ns:=by
 induction ns with
 | nil=>rfl
 | cons n r ih=>rw [IN]; unfold CI; rw [ih]; rfl
theorem RelL.bools_of {K:Iv} {F:Hp}:∀ {ns:List Bool} {xs:List V},RelL K F (ns.map PyData.bool) xs->xs=ns.map V.bl
 | [],xs,h=>h.nil_of
 | n::r,xs,h=>by
  obtain ⟨x,ys,rfl,h1,h2⟩:=h.cons_of;rw [h1.bl,RelL.bools_of h2]; rfl
theorem AA (bs:List Bool):(List.range bs.length).any (λ i=>bs.getD i false)=bs.any id:=by
 rw [Kw,JZ,JZ]
 constructor
 ·rintro ⟨i,hi,h⟩
  have hi:=J0.mp hi;rw [Jn,Jb hi] at h;exact ⟨_,List.getElem_mem hi,h⟩
 ·rintro ⟨x,hx,h⟩
  obtain ⟨i,hi,rfl⟩:=List.mem_iff_getElem.mp hx;exact ⟨i,J0.mpr hi,by rw [Jn,Jb hi]; exact h⟩
noncomputable def Bu (K:Iv) (r:List Bool->Bool):List V->Hp->VK->Prop:=λ xs H Q=>∃ (p:IS) (bs:List Bool),xs=[.ref p]/\SqL K H p (bs.map V.bl)/\Q (.bl (r bs)) H
theorem zq (hc:X.calm=true) {pins:List (IS×Obj)} {s:IG} {σ:St} {H:Hp} {p:IS} {bs:List Bool} {Q:Bool->IE->IG->Prop} {r:(Nat->Bool)->Nat->Bool} (I:Inv X pins σ H s) (hq:SqL X.K H p (bs.map V.bl))
  (hQ:∀ h' tk,(∀ b o,s.heap.get? b=some o->h'.get? b=some o)->Q true (.bool (r (λ i=>bs.getD i false) bs.length)) { s with heap:=h',toks:=tk }) :
  Jp (Jt X.prog X.w) X.A.in1 (pyIter (.ref p)) (λ it s₂=>∃ I fp wr n P St tr,it=.ref I/\Walks X.prog X.w X.A.in1 I fp wr n P St/\St 0 s₂.heap/\TruthOf X.prog X.w X.A.in1 P tr /\
   ∀ h' tk,(∀ b o,b∉wr->s₂.heap.get? b=some o->h'.get? b=some o)->Q true (.bool (r tr n)) { s₂ with heap:=h',toks:=tk }) X.xe s:=by
 obtain ⟨its,rv,pl,hz⟩:=I.list hq;have hl:=rv.length;rw [Iy] at hl;have hlt:p < s.heap.objs.size:=by
  obtain ⟨o,ho,_⟩:=pl.isList;exact IU ho
 refine wpAny_pyIter_list pl.isList ?_;refine ⟨s.heap.objs.size,_,_,_,_,_,λ i=>bs.getD i false,rfl,Walks.list (A:=X.A.in1) (I.ok.hd hc) s.heap.objs.size p (Je hlt) its.toArray,⟨⟨_,Jf _ rfl,rfl,rfl⟩,pl.isList.at λ o e=>IK _ e⟩,?_,λ h' tk hk=>?_⟩
 ·intro i v s' Q' E' hv hq';have hv':its[i]?=some v:=by simpa using hv
  obtain ⟨hi,_⟩:=ID.mp hv';have hn:bs[i]?=some bs[i]:=Jb (by omega);obtain ⟨w,hw,rw'⟩:=rv.get (i:=i) (x:=.bl bs[i]) (by rw [IP,hn]; rfl);rw [hv'] at hw;cases hw;cases rw';have e:bs.getD i false=bs[i]:=by rw [Jn,hn]; rfl
  rw [show (λ i=>bs.getD i false) i=bs[i] from e] at hq';exact wpAny_truthy_bool hq'
 ·have e:its.toArray.size=bs.length:=by rw [IL]; exact hl.symm
  rw [e];refine hQ h' tk λ b o eb=>hk b o ?_ (IK _ eb);intro hb;exact absurd (IU eb) (by rw [Jc.mp hb]; exact JW _)
theorem CD (hc:X.calm=true):CallR X (.builtin "any") (Bu X.K λ bs=>bs.any id):=by
 intro pins s σ H xs us Q I r h;obtain ⟨p,bs,rfl,hq,q⟩:=h;obtain ⟨u,rfl,rx⟩:=oY r;cases rx;refine call_any_walk (zq hc (Q:=λ _ v s'=>EP X pins σ Q v s') (r:=λ tr n=>(List.range n).any tr) I hq λ h' tk k=>?_);rw [AA];exact ⟨.bl _,H,I.kept k,rfl,q⟩
noncomputable def wS (r:List Bool->Bool) (ds:List Iw):Option Iw:=match ds with
 | [.list xs]=>(CI xs).bind λ bs=>some (.bool (r bs))
 | _=>none
theorem CM {K:Iv} {r:List Bool->Bool}:AdA K (Bu K r) (wS r):=λ F H xs ds d Q sm rs e q=>by
 unfold wS at e;split at e
 ·obtain ⟨bs,h1,h2⟩:=ab e;cases h2
  have:=wy h1
  subst this;obtain ⟨x,r,rfl,rx,rr⟩:=rs.cons_of;obtain rfl:=rr.nil_of;obtain ⟨a,ys,rfl,hq,r1⟩:=rx.lst
  have:=r1.bools_of
  subst this;exact ⟨a,bs,rfl,sm.seq hq,q _ F H (.refl sm) gz⟩
 ·cases e
noncomputable def BS:=wS λ bs=>bs.any id
theorem E.any (hc:X.calm=true) (hm:X.mg "any" = none) (ha:A X B [e] fs) (hg:Gl X "any" := by rfl) (he:II [e] X.env=(false,eval e X.env)::II [] X.env:=by exact cg rfl) (hpl:(backTo pos (II [] X.env)).any (·.1)=false:=by rfl):E X B (.Call (.Name "any" pp) [e] [] pos) (lA BS fs) :=
 E.callB (CD hc) CM hm (by decide +kernel) ha hg (by decide) (by decide) he hpl
noncomputable def DF (ds:List Iw):Option Iw:=match ds with
 | [.int i,.int j]=>some (.int (if j > i then j else i))
 | _=>none
noncomputable def DE (ds:List Iw):Option Iw:=match ds with
 | [.int i,.int j]=>some (.int (if j < i then j else i))
 | _=>none
theorem CJ {K:Iv} {g:Int->Int->Int}:AdA K (λ xs H Q=>∃ i j,xs=[.int i,.int j]/\Q (.int (g i j)) H) (λ ds=>match ds with | [.int i,.int j]=>some (.int (g i j)) | _=>none):=λ F H xs ds d Q sm rs e q=>by
 dsimp only at e;split at e
 ·cases e;obtain ⟨x,r,rfl,rx,rr⟩:=rs.cons_of;obtain ⟨y,r2,rfl,ry,rr2⟩:=rr.cons_of;obtain rfl:=rr2.nil_of;exact ⟨_,_,by rw [rx.int,ry.int],q _ F H (.refl sm) c6⟩
 ·cases e
theorem E.max (hc:X.calm=true) (hm:X.mg "max" = none) (ha:A X B [a,b] fs) (hg:Gl X "max" := by rfl) (he:II [a,b] X.env=(false,eval a X.env)::II [b] X.env:=by rfl) (hpl:(backTo pos (II [b] X.env)).any (·.1)=false:=by rfl):E X B (.Call (.Name "max" pp) [a,b] [] pos) (lA DF fs) :=
 E.callB (A0 hc) CJ hm (by decide +kernel) ha hg (by decide) (by decide) he hpl
theorem E.min (hc:X.calm=true) (hm:X.mg "min" = none) (ha:A X B [a,b] fs) (hg:Gl X "min" := by rfl) (he:II [a,b] X.env=(false,eval a X.env)::II [b] X.env:=by rfl) (hpl:(backTo pos (II [b] X.env)).any (·.1)=false:=by rfl):E X B (.Call (.Name "min" pp) [a,b] [] pos) (lA DE fs) :=
 E.callB (AZ hc) CJ hm (by decide +kernel) ha hg (by decide) (by decide) he hpl
noncomputable def yY (ds:List Iw):Option Iw:=match ds with
 | [.int i]=>some (.int i)
 | [.bool k]=>some (.int (if k then 1 else 0))
 | _=>none
theorem Go {K:Iv}:AdA K (λ xs H Q=>(∃ i,xs=[.int i]/\Q (.int i) H)\/∃ k,xs=[.bl k]/\Q (.int (if k then 1 else 0)) H) yY:=λ F H xs ds d Q sm rs e q=>by
 unfold yY at e;split at e
 ·cases e;obtain ⟨x,r,rfl,rx,rr⟩:=rs.cons_of;obtain rfl:=rr.nil_of;exact .inl ⟨_,by rw [rx.int],q _ F H (.refl sm) c6⟩
 ·cases e;obtain ⟨x,r,rfl,rx,rr⟩:=rs.cons_of;obtain rfl:=rr.nil_of;exact .inr ⟨_,by rw [rx.bl],q _ F H (.refl sm) c6⟩
 ·cases e
theorem E.toInt (hm:X.mg "int" = none) (ha:A X B [e] fs) (hg:Gl X "int" := by rfl) (he:II [e] X.env=(false,eval e X.env)::II [] X.env:=by exact cg rfl) (hpl:(backTo pos (II [] X.env)).any (·.1)=false:=by rfl):E X B (.Call (.Name "int" pp) [e] [] pos) (lA yY fs) :=
 E.callTy A3 Go hm (by decide +kernel) ha hg (by decide) (by decide) he hpl
end
section
variable {X:Cx} {B:Bd} {e:Expr} {f:En->Option Iw} {tg:Expr}
end
section
variable {X:Cx} {B:Bd} {a b e:Expr} {f g:En->Option Iw} {apos cpos:Pos}
end
section
variable {X:Cx} {B:Bd} {a b e:Expr} {f g:En->Option Iw} {pos:Pos}
noncomputable def FZ:Iw->Bool
 | .none=>true
 | _=>false
noncomputable def ss (neg:Bool) (x y:Iw):Option Iw:=match y with
 | .none=>some (.bool (if neg then !FZ x else FZ x))
 | _=>none
theorem z4 {K:Iv} {F:Hp} {d:Iw} {x:V} (r:Rel K F d x):decide (x=.non)=FZ d:=by
 cases d with
 | none=>rw [r.non]; rfl
 | bool b=>rw [r.bl]; rfl
 | int i=>rw [r.int]; rfl
 | str s=>rw [r.str]; rfl
 | list ds=>obtain ⟨a,xs,rfl,_⟩:=r.lst; rfl
 | tuple ds=>obtain ⟨a,xs,rfl,_⟩:=r.tup; rfl
 | dict es=>obtain ⟨a,xs,rfl,_⟩:=r.dct; rfl
theorem Gn {K:Iv}:Ad2 K (λ x y H Q=>y=.non/\Q (.bl (decide (x=.non))) H) (ss false):=λ F H x y dx dy d Q sm rx ry e q=>by
 unfold ss at e;split at e
 ·cases e;refine ⟨ry.non,?_⟩;rw [z4 rx];exact q _ F H (.refl sm) gz
 ·cases e
theorem Ew {K:Iv}:Ad2 K (λ x y H Q=>y=.non/\Q (.bl (!decide (x=.non))) H) (ss true):=λ F H x y dx dy d Q sm rx ry e q=>by
 unfold ss at e;split at e
 ·cases e;refine ⟨ry.non,?_⟩;rw [z4 rx];exact q _ F H (.refl sm) gz
 ·cases e
theorem T.isN (ha:E X B a f) (hb:E X B b g) (hm:Jz .Is b=false:=by rfl):T X B (.Compare a [.Is] [b] pos) (bT (l2 (ss false) f g)):=T.cmp FM Gn hm ha hb
theorem T.notN (ha:E X B a f) (hb:E X B b g) (hm:Jz .IsNot b=false:=by rfl):T X B (.Compare a [.IsNot] [b] pos) (bT (l2 (ss true) f g)):=T.cmp DG Ew hm ha hb
end
noncomputable def Itv (K:Iv) (a:IS) (n:Nat):It :=
 ⟨λ i H=>i < n/\∃ xs x,SqL K H a xs/\xs[n - 1 - i]?=some x,λ i H x H'=>H'=H/\∀ xs,SqL K H a xs->xs[n - 1 - i]?=some x,λ i _=>i=n⟩
theorem Bh {P:Jg} {w:World} {K:Iv} {tg:Expr} (a it:IS) (n:Nat):Turn P w K tg (Itv K a n) [it] it (λ i h=>h.IsRevIter it a ((n:Int) - 1 - (i:Nat))) where
 mem:=by simp
 obj:=λ i h st b hb=>by
  have e:b=it:=by simpa using hb
  subst e;obtain ⟨o,e,c,d⟩:=st;exact ⟨o,e,λ v z=>by rw [d] at z; cases z⟩
 keep:=λ i h h' st k=>st.at λ o e=>k it (by simp) o e
 item:=by
  intro X hP hw hK hc i pins s σ H E I hf st hg;subst hP hw hK;obtain ⟨hi,xs,x,hq,hx⟩:=hg;obtain ⟨its,rv,p,hz⟩:=I.list hq;obtain ⟨u,hu,ru⟩:=rv.get hx;obtain ⟨f0,f1,f2,f3,f4,f5⟩:=hf it (by simp);have ei:(n:Int) - 1 - (i:Nat)=((n - 1 - i:Nat):Int):=by omega
  rw [ei] at st;refine wpAny_pyNext_rev_item st p.isList (x:=u) (by simpa using hu) λ h' st' sb=>?_;have I1:Inv X pins σ H { s with heap:=h' }:=I.turned (t':=s.toks) (λ b o hb e=>(sb.2 b hb).trans e) f0 f1 f3 f4 f5;have st2:h'.IsRevIter it a ((n:Int) - 1 - ((i+1:Nat):Nat)):=by
   have e2:((n - 1 - i:Nat):Int) - 1=(n:Int) - 1 - ((i+1:Nat):Nat):=by omega
   rw [<- e2]; exact st'
  obtain ⟨o,e,c,d⟩:=id st';exact ⟨u,rfl,Ag (s:={ s with heap:=h' }) e c d (by decide) ⟨x,H,I1,ru,⟨rfl,λ ys hy=>by rw [I.list_inj hy hq]; exact hx⟩,st2,λ b hb=>(hf b hb).1⟩⟩
 done:=by
  intro X hP hw hK hc i pins s σ H E I hf st hg;subst hP hw hK;obtain ⟨f0,f1,f2,f3,f4,f5⟩:=hf it (by simp);have hg:i=n:=hg;have ei:(n:Int) - 1 - (i:Nat)=-1:=by omega
  rw [ei] at st;exact wpAny_pyNext_rev_end (I.ok.hd hc) st λ h' eb=>⟨rfl,I.turned (t':=s.toks) (λ b o hb e=>eb b o hb e) f0 f1 f3 f4 f5⟩
 self:=λ _ _ _ _ _ st h=>wpAny_pyIter_revIter st h
section
variable {X:Cx} {B:Bd} {a:Expr} {fs:En->Option (List Iw)} {pos pp:Pos}
noncomputable def rvS (ds:List Iw):Option (List Iw):=match ds with
 | [.list xs]=>some xs.reverse
 | _=>none
theorem Ed {K:Iv} {F:Hp} {p:IS} {ds:List Iw} {xs:List V} (hq:SqL K F p xs) (rs:RelL K F ds xs):ItP K (Itv K p ds.length) F ds.reverse:=λ F1 H1 i s1 s2=>by
 refine ⟨λ d e=>?_,λ e=>by show i=ds.length; rw [e,Jr]⟩;have hi:i < ds.length:=by
  have:=(ID.mp e).1
  rwa [Jr] at this
 rw [List.getElem?_reverse hi] at e;obtain ⟨x,hx,rx⟩:=rs.get e;have hq1:SqL K H1 p xs:=s2.seq (s1.seq hq);refine ⟨⟨hi,xs,x,hq1,hx⟩,λ v H2 y=>?_⟩;obtain ⟨rfl,y⟩:=y
 have:=(y xs hq1).symm.trans hx
 cases this;exact ⟨F1,.refl s2,rx.mono s1⟩
theorem I.rev {tg:Expr} (hc:X.calm=true) (hm:X.mg "reversed" = none) (ha:A X B [a] fs) (hg:Gl X "reversed" := by rfl) (hs:II [a] X.env=[(false,eval a X.env)]:=by exact cg rfl) :
  I X B tg (.Call (.Name "reversed" pp) [a] [] pos) (λ η=>(fs η).bind rvS):=by
 intro pins s σ H R I ⟨F,η,ds,sr,hd,q⟩;obtain ⟨es,h1,hd⟩:=ab hd;unfold rvS at hd;split at hd
 ·rename_i x;cases hd;refine Call_ (qT I hg hm (show bootBuiltins "reversed" = some (.type "reversed") by decide +kernel) (PyProof.Rows.callWith_type1 (thn (ha pos pins s σ H (λ vs H1=>∃ F',Gr F H F' H1/\RelL X.K F' [.list x] vs) I ⟨F,η,_,sr,h1,λ vs F' H' g r=>⟨F',g,r⟩⟩) λ us s1 ⟨vs,H1,I1,r1,F1,g1,rl⟩=>?_) hs rfl));obtain ⟨y,r,rfl,ry,rr⟩:=rl.cons_of;obtain rfl:=rr.nil_of;obtain ⟨u,rfl,ru⟩:=oY r1;obtain ⟨p,xs,rfl,hq,rs⟩:=ry.lst;cases ru;obtain ⟨its,rv,pl,hz⟩:=I1.list (g1.fh.seq hq);refine call_reversed_list pl.isList ?_;have hl:its.toArray.size=x.length:=by
   have h1:=rv.length;have h2:=rs.length;rw [IL];omega
  have st:(s1.heap.push (revObj p ((its.toArray.size:Int) - 1))).IsRevIter s1.heap.objs.size p ((x.length:Int) - 1 - ((0:Nat):Nat)):=by
   refine ⟨_,Jf _ rfl,rfl,?_⟩;have e2:(its.toArray.size:Int) - 1=(x.length:Int) - 1 - ((0:Nat):Nat):=by rw [hl]; omega
   rw [<- e2]; rfl
  refine wpAny_pyIter_revIter st ?_;refine ⟨_,[s1.heap.objs.size],_,_,H1,rfl,I1.kept (t':=s1.toks) λ b o e=>IK _ e,Bh p _ x.length,st,λ b hb=>?_,q _ F1 H1 g1 (Ed hq rs)⟩;rw [Jc.mp hb];exact I1.fpOk (IF _) (I1.hok.fresh (IF _))
 ·cases hd
end
section
variable {X:Cx} {B:Bd} {a b e:Expr} {f g:En->Option Iw} {fs:En->Option (List Iw)} {pos:Pos}
end
section
variable {X:Cx} {B:Bd} {e st:Expr} {f g:En->Option Iw} {pos p2:Pos}
noncomputable def pRv (x y:Iw):Option Iw:=match x with
 | .list ds=>(asI y).bind λ k=>if k=-1 then some (.list ds.reverse) else none
 | _=>none
theorem DC {g:En->Option Iw} {η:En} {k:Int} (h:g η=some (.int k)):pS g η=some (some k):=by
 unfold pS;rw [h]; rfl
theorem E.slRev (he:E X B e f) (hs:E X B st g) (hsub:∀ o i,subscripted (.Slice none none (some st) p2) false o i=operate [o,i] (getItem o i):=by intro _ _; with_unfolding_all rfl):E X B (.Subscript e (.Slice none none (some st) p2) pos) (l2 pRv f g):=by
 intro pins s σ H Q I ⟨F,η,d,sr,hd,q⟩;obtain ⟨x,hx,hd⟩:=ab hd;obtain ⟨y,hy,hd2⟩:=ab hd;unfold pRv at hd2;split at hd2
 ·rename_i ds;obtain ⟨k,hk,hd3⟩:=ab hd2;obtain rfl:=yF hk;split at hd3
  ·rename_i hk1;subst hk1;cases hd3;refine Subscript_ (thn (he pins s σ H (λ v H1=>∃ F1,Gr F H F1 H1/\Rel X.K F1 (.list ds) v) I ⟨F,η,_,sr,hx,λ v F1 H1 g1 r=>⟨F1,g1,r⟩⟩) λ v s1 ⟨x,H1,I1,r1,F1,g1,rx⟩=>?_);refine wpAny_Slice ?_;rw [evalPart_none];refine Ja (Ja ?_);refine thn ((P.some hs) pins s1 σ H1 (λ o H2=>∃ F2,Gr F1 H1 F2 H2/\o=some (-1)) I1 ⟨F1,η,some (-1),sr.grow g1,DC hy,λ F2 H2 g2=>⟨F2,g2,rfl⟩⟩) λ vs s2 ⟨o,H2,I2,ps,F2,g2,eo⟩=>?_;subst eo;have I4:Inv X pins σ H2 { s2 with heap:=s2.heap.push { cls:=.type "slice", data:=.fields #[.none,.none,vs] } }:=I2.kept (t':=s2.toks) λ b ob q=>IK _ q;obtain ⟨a,xs,rfl,hq,rs⟩:=rx.lst;cases r1;obtain ⟨its,r,ht,hz⟩:=I4.list (g2.hh.seq (g1.fh.seq hq));have hlen:=r.length;show Jp (Jt X.prog X.w) X.A (subscriptTail e (.Slice none none (some st) p2) (.ref a) (.ref s2.heap.objs.size)) (EP X pins σ Q) X.xe { s2 with heap:=s2.heap.push { cls:=.type "slice", data:=.fields #[.none,.none,vs] } };refine tail_any (ops:=[.ref a,.ref s2.heap.objs.size]) ht.isList.typeIs slot_list_getitem.lookup ?_ (hsub _ _);refine wpAny_getItem_list_slice ht.isList (Heap.IsSliceOf.new ..) .none .none ps (by decide) ?_ (by rw [IL] <;> omega);rw [PySem.W.krv_pick,show its.toArray.toList.reverse=its.reverse by simp];have g3:∀ l,H2 l=none->Gr F2 H2 (upd F2 l (.lst xs.reverse)) (upd H2 l (.lst xs.reverse)):=λ l hl=>Gr.one g2.fh hl;refine ⟨.ref _,_,I4.laid (t':=s2.toks) (o:=.lst xs.reverse) (λ b ob q=>IK _ q) (IF _) ?_,rfl,q _ _ _ ((g1.trans g2).trans (g3 _ (I4.hok.fresh (IF _)))) (kB (SqL.of aw) (rs.reverse.mono (g2.ff.trans (g3 _ (I4.hok.fresh (IF _))).ff)))⟩;refine ⟨by rw [Jr]; exact hz,its.reverse,0,?_,Jf _ rfl⟩;exact r.reverse
  ·cases hd3
 ·cases hd2
end
section
variable {X:Cx} {B:Bd} {pos pp:Pos}
end
noncomputable def EV:Iw->Option Key
 | .int i=>some (.inl i)
 | .str x=>some (.inr x)
 | _=>none
theorem yf (k:Key):EV (kD k)=some k:=by cases k <;> rfl
theorem Cf {a b:Key} (h:kD a=kD b):a=b:=by
 have:=congrArg EV h
 rw [yf,yf] at this;exact Option.some.inj this
section
variable {X:Cx} {B:Bd} {o e e2 a b:Expr} {f g h:En->Option Iw} {pos pos' apos cpos npos:Pos}
theorem Room.one {k:Nat} {A:JH} (hr:Room k A):A.units+1 < cLine:=by have:=hr.units; omega
end
section
variable {X:Cx}
variable {B:Bd} {a:Expr} {f:En->Option Iw} {pos:Pos}
end
section
variable {K:Iv} {F F':Hp}
theorem yk {d:Iw} {v:V} (h:iS d=true) (r:Rel K F' d v):Rel K F d v:=by
 cases d with
 | none=>rw [r.non]; exact p6
 | bool b=>rw [r.bl]; exact gz
 | int i=>rw [r.int]; exact c6
 | str x=>rw [r.str]; exact n5
 | list ds=>cases h
 | tuple ds=>cases h
 | dict es=>cases h
theorem wo:∀ {ds:List Iw} {vs:List V},ds.all iS=true->RelL K F' ds vs->RelL K F ds vs
 | [],vs,_,r=>by rw [r.nil_of]; exact .nil
 | d::ds,vs,h,r=>by
  rw [J2,JC] at h;obtain ⟨x,xs,rfl,h1,h2⟩:=r.cons_of;exact .cons (yk h.1 h1) (wo h.2 h2)
end
theorem Gr.back {F H F1 F' H':Hp} (sm:Same F H) (g:Gr F1 H F' H'):Gr F H F H':=⟨.refl _,g.hh,sm.trans g.hh,λ _ z=>.inl z⟩
section
variable {X:Cx} {B:Bd} {e:Expr} {f:En->Option Iw} {fs:En->Option (List Iw)} {p:En->Option Bool}
end
section
variable {X:Cx} {B:Bd} {e o:Expr} {f g:En->Option Iw} {fs:En->Option (List Iw)} {pos pp rp rpos:Pos}
end
theorem vF {P:Jg} {w:World} {H:Hp} {h:Heap} {p:IS} {ob:Obj} {ks:List (Key×V)} {es:Array DictEntry} {ep:Nat} (hd:ob.data=.dict es ep) (ok:HOk P w H h) (e:H p=some (.frz ob (.dK ks))) :
  (p==sysModules)=false/\∃ vs,KV ks vs/\h.DictAt (eG P w) p vs ep:=by
 obtain ⟨h1,z,y,vs,r,o2,es2,ep2,g,c,d,rest⟩:=(show ObjOk P w H h p (.frz ob (.dK ks)) from ok p _ e);rw [h1] at g;cases g;rw [hd] at d;cases d;exact ⟨y,vs,r,ob,es,h1,c,hd,rest⟩
theorem D7 {k:Key} {v:IE} (h:va k v=true):RelV (kV k) v:=by
 rcases eK h with ⟨i,t,rfl,rfl⟩ | ⟨x,t,rfl,rfl⟩
 ·exact ⟨t,rfl⟩
 ·exact ⟨t,rfl⟩
section
variable {X:Cx} {B:Bd} {pos npos:Pos} {tg:Expr}
theorem RelD.keys {K:Iv} {F:Hp}:∀ {kvs:List (Key×Iw)} {ks:List (Key×V)},RelD K F (prs kvs) ks->kvs.map (·.1)=ks.map (·.1)
 | [],ks,h=>by rw [h.nil_of]; rfl
 | (k',d)::kvs,ks,h=>by
  obtain ⟨k2,x,r,rfl,e,h3,h4⟩:=RelD.cons_of (d:=kD k') (e:=d) (es:=prs kvs) h
  have:=Cf e
  subst this;rw [IN,IN,RelD.keys h4]
end
section
variable {X:Cx} {B:Bd} {e o:Expr} {f g:En->Option Iw} {fs:En->Option (List Iw)} {pos pos' pp rp rpos:Pos}
end
section
variable {X:Cx} {B:Bd}
end
section
variable {X:Cx} {B:Bd} {a b:Expr} {f g:En->Option Iw} {pos:Pos}
theorem E.le (ha:E X B a f) (hb:E X B b g):E X B (.Compare a [.LtE] [b] pos) (l2 pLe f g):=E.cmp BT (wz λ _ _ _=>gz) (nomark b) ha hb
end
noncomputable def Itel (K:Iv) (l:IS) (n:Nat):It :=
 ⟨λ i H=>i < n/\∃ xs x,SqL K H l xs/\xs.length=n/\xs[i]?=some x,λ i H v H'=>∃ T x,H T=none/\(∀ xs,SqL K H l xs->xs[i]?=some x)/\v=.ref T/\H'=upd H T (.tup [.int (i:Nat),x]),λ i H=>i=n/\∃ xs,SqL K H l xs/\xs.length=n⟩
theorem yN {P:Jg} {w:World} {K:Iv} {elts:List Expr} {k:Nat} {tp:Pos} {e it l:IS} {n:Nat} (hei:e≠it) (hel:e≠l) (hli:l≠it) :
  Turn P w K (.Tuple elts k tp) (Itel K l n) [e,it] e (λ i h=>(∃ old,IsEnum h e it i old)/\h.IsListIter it l i) where
 mem:=by simp
 obj:=λ i h st b hb=>by
  obtain ⟨⟨old,he⟩,hs⟩:=st;rcases IY.mp hb with rfl | hb
  ·exact ⟨_,he,λ v z=>by cases z⟩
  ·rw [Jc.mp hb];obtain ⟨o,ho,hcl,hd⟩:=hs;exact ⟨o,ho,λ v z=>by rw [hd] at z; cases z⟩
 keep:=λ i h h' st kk=>by
  obtain ⟨⟨old,he⟩,hs⟩:=st;exact ⟨⟨old,kk e (by simp) _ he⟩,hs.at λ o q=>kk it (by simp) o q⟩
 item:=by
  intro X hP hw hK hc i pins s σ H E I hf st hg;subst hP hw hK;obtain ⟨hin,xs,x,hq,hxl,hx⟩:=hg;obtain ⟨its,rv,pl,hz⟩:=I.list hq;obtain ⟨u,hu,ru⟩:=rv.get hx;have hlen:its.toArray.size=n:=by rw [IL,<- rv.length]; exact hxl
  have W:=WalksT.enumerateD (prog:=X.prog) (w:=X.w) (A:=X.A) (Draws.list (A:=X.A.in1) (I.ok.hd hc) it l hli its.toArray) e hei (by simp; exact ⟨hei,hel⟩) (by simp);refine W.item i s _ _ (by rw [hlen]; exact hin) ⟨st.1,st.2,pl.isList⟩ λ T vals h' tk Pt hT hIs Md kp=>⟨.ref T,rfl,?_⟩;refine W.go elts k tp i T _ _ _ Md λ h'' st'' kp''=>?_;obtain ⟨t,xv,hxv,rfl⟩:=Pt;have exu:xv=u:=by
   have:its.toArray[i]?=some u:=by simpa using hu
   rw [this] at hxv;exact (Option.some.inj hxv).symm
  subst exu;have nT:H T=none:=I.hok.fresh hT;have aT:T∉[e,it]:=λ hb=>by
   have:=W.apart i T _ Md
   refine this ?_;rcases IY.mp hb with z | z
   ·rw [z]; simp
   ·rw [Jc.mp z]; simp
  have kall:∀ b o,b∉[e,it]->s.heap.get? b=some o->h''.get? b=some o:=λ b o hb q=>kp'' b o hb (kp b o hb q);have hIs'':IsTup h'' T #[.int i t,xv]:=by
   obtain ⟨o,ho,hcl,n,hd⟩:=hIs;exact ⟨o,kp'' T o aT ho,hcl,n,hd⟩
  have ltT:∀ b o,s.heap.get? b=some o->b≠T:=λ b o q=>Je (IV (IU q) hT);have nfp:∀ b o,H b=some o->b∉[e,it]:=λ b o q hb=>by rw [(hf b hb).1] at q; cases q
  have J:Inv X pins σ (upd H T (.tup [.int (i:Nat),x])) { s with heap:=h'',toks:=tk }:=by
   refine I.step (h':=h'') (g':=s.gens) (d':=s.drawn) (t':=tk) (ch:=[e,it]) (λ b hb=>⟨(hf b hb).2.2.2.1,(hf b hb).2.1,(hf b hb).2.2.2.2.1,(hf b hb).2.2.2.2.2⟩)
    (λ b o _ _ hb q _=>kall b o hb q) (λ b o _ _ hb q _=>⟨o.slots,kall b o hb q⟩) (λ b o _ q n=>by rw [am (ltT b o q)]; exact n) (λ b o hb q=>⟨o,kall b o hb q⟩)
    (λ b xs q=>by rw [am (aB q nT)]; exact q) (λ b o xs q=>by rw [am (aB q nT)]; exact q) (λ b ps q=>⟨#[],by rw [am (aB q nT),q]; simp⟩) (λ m hm=>?_) (λ b o q=>?_) I.bare
   ·obtain ⟨o,es,ep,ho,r⟩:=hm;refine ⟨o,es,ep,kall _ o (λ hb=>?_) ho,r⟩;exact (hf _ hb).2.1 rfl
   ·by_cases hb:b=T
    ·subst hb;rw [aw] at q;cases q;exact ⟨by show 2<=IB; decide,[.int i t,xv],.cons ⟨t,rfl⟩ (.cons ru .nil),hIs''⟩
    ·rw [am hb] at q;refine (I.hok b o q).stay (λ c' v hc' z=>kall c' v ?_ z) (λ c' z=>by rw [am (aB z nT)]; exact z) λ c' xs z=>by rw [am (aB z nT)]; exact z
     rcases hc' with rfl | hc'
     ·exact nfp _ _ q
     ·exact nfp _ _ hc'
  refine ⟨.ref T,upd H T (.tup [.int (i:Nat),x]),J,rfl,⟨T,x,nT,λ ys hy=>by rw [I.list_inj hy hq]; exact hx,rfl,rfl⟩,⟨st''.1,st''.2.1⟩,λ b hb=>?_⟩;have nb:b≠T:=λ z=>aT (by rw [<- z]; exact hb);rw [am nb]; exact (hf b hb).1
 done:=by
  intro X hP hw hK hc i pins s σ H E I hf st hg;subst hP hw hK;obtain ⟨hin,xs,hq,hxl⟩:=hg;obtain ⟨its,rv,pl,hz⟩:=I.list hq;have hlen:its.toArray.size=n:=by rw [IL,<- rv.length]; exact hxl
  have W:=WalksT.enumerateD (prog:=X.prog) (w:=X.w) (A:=X.A) (Draws.list (A:=X.A.in1) (I.ok.hd hc) it l hli its.toArray) e hei (by simp; exact ⟨hei,hel⟩) (by simp);rw [hin,<- hlen] at st;refine W.done s _ _ ⟨st.1,st.2,pl.isList⟩ λ h' tk kp=>⟨rfl,?_⟩;have nfp:∀ b o,H b=some o->b∉[e,it]:=λ b o q hb=>by rw [(hf b hb).1] at q; cases q
  refine I.step (h':=h') (g':=s.gens) (d':=s.drawn) (t':=tk) (ch:=[e,it]) (λ b hb=>⟨(hf b hb).2.2.2.1,(hf b hb).2.1,(hf b hb).2.2.2.2.1,(hf b hb).2.2.2.2.2⟩)
   (λ b o _ _ hb q _=>kp b o hb q) (λ b o _ _ hb q _=>⟨o.slots,kp b o hb q⟩) (λ _ _ _ _ n=>n) (λ b o hb q=>⟨o,kp b o hb q⟩)
   (λ _ _ q=>q) (λ _ _ _ q=>q) (λ b ps q=>⟨#[],by rw [q]; simp⟩) (λ m hm=>?_) (λ b o q=>?_) I.bare
  ·obtain ⟨o,es,ep,ho,r⟩:=hm;exact ⟨o,es,ep,kp _ o (λ hb=>(hf _ hb).2.1 rfl) ho,r⟩
  ·refine (I.hok b o q).stay (λ c' v hc' z=>kp c' v ?_ z) (λ _ z=>z) λ _ _ z=>z;rcases hc' with rfl | hc'
   ·exact nfp _ _ q
   ·exact nfp _ _ hc'
 self:=λ A i s Q E st h=>by
  obtain ⟨⟨old,he⟩,hs⟩:=st;exact wpAny_pyIter_enum he h
section
variable {X:Cx} {B:Bd} {a:Expr} {fs:En->Option (List Iw)} {pos pp:Pos}
noncomputable def enL (ds:List Iw):Option (List Iw):=match ds with
 | [.list xs]=>some (kS xs 0)
 | _=>none
theorem AT {K:Iv} {F:Hp} {l:IS} {ds:List Iw} {xs:List V} (hq:SqL K F l xs) (rs:RelL K F ds xs):ItP K (Itel K l ds.length) F (kS ds 0):=λ F1 H1 i s1 s2=>by
 have hq1:SqL K H1 l xs:=s2.seq (s1.seq hq);refine ⟨λ d e=>?_,λ e=>⟨by rw [e,p9],xs,hq1,rs.length⟩⟩;have hi:i < ds.length:=by
  have:=(ID.mp e).1
  rwa [p9] at this
 obtain ⟨cd,h1,h2⟩:=sN _ _ _ _ e;obtain ⟨x,hx,rx⟩:=rs.get h1;refine ⟨⟨hi,xs,x,hq1,rs.length,hx⟩,λ v H2 y=>?_⟩;obtain ⟨T,x',hT,hxx,rfl,rfl⟩:=y
 have:=(hxx xs hq1).symm.trans hx
 cases this;rw [Nat.zero_add] at h2;subst h2;have g:=Gr.one (o:=.tup [.int (i:Nat),x]) s2 hT;exact ⟨_,g,iD (SqT.of aw) (.cons c6 (.cons (rx.mono (s1.trans g.ff)) .nil))⟩
theorem I.enumL {elts:List Expr} {k:Nat} {tp:Pos} (hc:X.calm=true) (hm:X.mg "enumerate" = none) (ha:A X B [a] fs) (hg:Gl X "enumerate" := by rfl) (hs:II [a] X.env=[(false,eval a X.env)]:=by exact cg rfl) :
  I X B (.Tuple elts k tp) (.Call (.Name "enumerate" pp) [a] [] pos) (λ η=>(fs η).bind enL):=by
 intro pins s σ H R I ⟨F,η,ds,sr,hd,q⟩;obtain ⟨es,h1,hd⟩:=ab hd;unfold enL at hd;split at hd
 ·rename_i x;cases hd;refine Call_ (qT I hg hm boot_enumerate (PyProof.Rows.callWith_type1 (thn (ha pos pins s σ H (λ vs H1=>∃ F',Gr F H F' H1/\RelL X.K F' [.list x] vs) I ⟨F,η,_,sr,h1,λ vs F' H' g r=>⟨F',g,r⟩⟩) λ us s1 ⟨vs,H1,I1,r1,F1,g1,rl⟩=>?_) hs rfl));obtain ⟨y,r,rfl,ry,rr⟩:=rl.cons_of;obtain rfl:=rr.nil_of;obtain ⟨u,rfl,ru⟩:=oY r1;obtain ⟨p,xs,rfl,hq,rs⟩:=ry.lst;cases ru;obtain ⟨its,rv,pl,hz⟩:=I1.list (g1.fh.seq hq);have hpl:p < s1.heap.objs.size:=by
   obtain ⟨o,ho,_⟩:=pl.isList;exact IU ho
  refine call_enumerate_list pl.isList λ h' he hit hsz hk=>?_;refine wpAny_pyIter_enum he ?_;have I2:Inv X pins σ H1 { s1 with heap:=h' }:=I1.kept (t':=s1.toks) hk;have nw:∀ b,s1.heap.objs.size<=b->pZ X pins H1 b:=λ b hb=>I1.fpOk hb (I1.hok.fresh hb);have fpo:∀ b∈[s1.heap.objs.size+1,s1.heap.objs.size],pZ X pins H1 b:=λ b hb=>by
   rcases IY.mp hb with rfl | hb
   ·exact nw _ (Nat.le_succ _)
   ·rw [Jc.mp hb]; exact nw _ (IF _)
  exact ⟨_,_,_,_,H1,rfl,I2,yN (e:=s1.heap.objs.size+1) (it:=s1.heap.objs.size) (l:=p) (n:=x.length) (Nat.succ_ne_self _) (Kx (Nat.lt_succ_of_lt hpl)) (Je hpl),⟨⟨_,he⟩,hit⟩,fpo,q _ F1 H1 g1 (AT hq rs)⟩
 ·cases hd
end
section
variable {X:Cx} {B:Bd} {e:Expr} {f g:En->Option Iw} {fs:En->Option (List Iw)} {pos pp:Pos}
end
noncomputable def Itz (K:Iv) (l1 l2:IS) (n:Nat):It :=
 ⟨λ i H=>i < n/\∃ xs ys x y,SqL K H l1 xs/\SqL K H l2 ys/\min xs.length ys.length=n/\xs[i]?=some x/\ys[i]?=some y,λ i H v H'=>∃ T x y,H T=none/\(∀ xs,SqL K H l1 xs->xs[i]?=some x)/\(∀ ys,SqL K H l2 ys->ys[i]?=some y)/\v=.ref T/\H'=upd H T (.tup [x,y]),λ i H=>i=n/\∃ xs ys,SqL K H l1 xs/\SqL K H l2 ys/\min xs.length ys.length=n⟩
theorem Bg {P:Jg} {w:World} {K:Iv} {elts:List Expr} {k:Nat} {tp:Pos} {z TI TO i1 i2 l1 l2:IS} {n:Nat} (D:ZipApart z TI TO i1 i2 l1 l2) :
  Turn P w K (.Tuple elts k tp) (Itz K l1 l2 n) [z,TI,TO,i1,i2] z (λ i h=>IsZip h z TI TO .none/\IsPair h TI (.ref i1) (.ref i2)/\(∃ a b,IsPair h TO a b)/\h.IsListIter i1 l1 i/\h.IsListIter i2 l2 i) where
 mem:=by simp
 obj:=λ i h st b hb=>by
  obtain ⟨hz,h1,⟨a,c,h2⟩,h3,h4⟩:=st;simp only [IY,J5,or_false] at hb;rcases hb with rfl | rfl | rfl | rfl | rfl
  ·exact ⟨_,hz,λ v z=>by cases z⟩
  ·exact ⟨_,h1,λ v z=>by cases z⟩
  ·exact ⟨_,h2,λ v z=>by cases z⟩
  ·obtain ⟨o,ho,hcl,hd⟩:=h3;exact ⟨o,ho,λ v z=>by rw [hd] at z; cases z⟩
  ·obtain ⟨o,ho,hcl,hd⟩:=h4;exact ⟨o,ho,λ v z=>by rw [hd] at z; cases z⟩
 keep:=λ i h h' st kk=>by
  obtain ⟨hz,h1,⟨a,c,h2⟩,h3,h4⟩:=st;exact ⟨kk z (by simp) _ hz,kk TI (by simp) _ h1,⟨a,c,kk TO (by simp) _ h2⟩,h3.at λ o q=>kk i1 (by simp) o q,h4.at λ o q=>kk i2 (by simp) o q⟩
 item:=by
  intro X hP hw hK hc i pins s σ H E I hf st hg;subst hP hw hK;obtain ⟨hin,xs,ys,x,y,hq1,hq2,hxl,hx,hy⟩:=hg;obtain ⟨its1,rv1,pl1,hz1⟩:=I.list hq1;obtain ⟨its2,rv2,pl2,hz2⟩:=I.list hq2;obtain ⟨u1,hu1,ru1⟩:=rv1.get hx;obtain ⟨u2,hu2,ru2⟩:=rv2.get hy;have hlen:min its1.toArray.size its2.toArray.size=n:=by rw [IL,IL,<- rv1.length,<- rv2.length]; exact hxl
  have W:=WalksT.zip2 (prog:=X.prog) (w:=X.w) (A:=X.A) (I.ok.hd hc) z TI TO i1 i2 l1 l2 D its1.toArray its2.toArray;obtain ⟨s1,s2,s3,s4,s5⟩:=st;refine W.item i s _ _ (by rw [hlen]; exact hin) ⟨s1,s2,s3,s4,s5,pl1.isList,pl2.isList⟩ λ T vals h' tk Pt hT hIs Md kp=>⟨.ref T,rfl,?_⟩;refine W.go elts k tp i T _ _ _ Md λ h'' st'' kp''=>?_;obtain ⟨xv,yv,hxv,hyv,rfl⟩:=Pt;have exu:xv=u1:=by
   have:its1.toArray[i]?=some u1:=by simpa using hu1
   rw [this] at hxv;exact (Option.some.inj hxv).symm
  have eyu:yv=u2:=by
   have:its2.toArray[i]?=some u2:=by simpa using hu2
   rw [this] at hyv;exact (Option.some.inj hyv).symm
  subst exu eyu;have nT:H T=none:=I.hok.fresh hT;have aT0:T∉[z,TO,i1,i2]:=W.apart i T _ Md;have ltT:∀ b o,s.heap.get? b=some o->b≠T:=λ b o q=>Je (IV (IU q) hT);have aT:T∉[z,TI,TO,i1,i2]:=λ hb=>by
   simp only [IY,J5,or_false,not_or] at hb aT0;rcases hb with e | e | e | e | e
   ·exact aT0.1 e
   ·exact ltT TI _ s2 e.symm
   ·exact aT0.2.1 e
   ·exact aT0.2.2.1 e
   ·exact aT0.2.2.2 e
  have wr:∀ b,b∉[z,TI,TO,i1,i2]->b∉[z,TO,i1,i2]:=λ b hb hm=>hb (by simp only [IY,J5,or_false] at hm ⊢; rcases hm with e | e | e | e <;> simp [e]);have kall:∀ b o,b∉[z,TI,TO,i1,i2]->s.heap.get? b=some o->h''.get? b=some o:=λ b o hb q=>kp'' b o (wr b hb) (kp b o (wr b hb) q);have hIs'':IsTup h'' T #[xv,yv]:=by
   obtain ⟨o,ho,hcl,n,hd⟩:=hIs;exact ⟨o,kp'' T o aT0 ho,hcl,n,hd⟩
  have nfp:∀ b o,H b=some o->b∉[z,TI,TO,i1,i2]:=λ b o q hb=>by rw [(hf b hb).1] at q; cases q
  have J:Inv X pins σ (upd H T (.tup [x,y])) { s with heap:=h'',toks:=tk }:=by
   refine I.step (h':=h'') (g':=s.gens) (d':=s.drawn) (t':=tk) (ch:=[z,TI,TO,i1,i2]) (λ b hb=>⟨(hf b hb).2.2.2.1,(hf b hb).2.1,(hf b hb).2.2.2.2.1,(hf b hb).2.2.2.2.2⟩)
    (λ b o _ _ hb q _=>kall b o hb q) (λ b o _ _ hb q _=>⟨o.slots,kall b o hb q⟩) (λ b o _ q n=>by rw [am (ltT b o q)]; exact n) (λ b o hb q=>⟨o,kall b o hb q⟩)
    (λ b xs q=>by rw [am (aB q nT)]; exact q) (λ b o xs q=>by rw [am (aB q nT)]; exact q) (λ b ps q=>⟨#[],by rw [am (aB q nT),q]; simp⟩) (λ m hm=>?_) (λ b o q=>?_) I.bare
   ·obtain ⟨o,es,ep,ho,r⟩:=hm;refine ⟨o,es,ep,kall _ o (λ hb=>?_) ho,r⟩;exact (hf _ hb).2.1 rfl
   ·by_cases hb:b=T
    ·subst hb;rw [aw] at q;cases q;exact ⟨by show 2<=IB; decide,[xv,yv],.cons ru1 (.cons ru2 .nil),hIs''⟩
    ·rw [am hb] at q;refine (I.hok b o q).stay (λ c' v hc' z=>kall c' v ?_ z) (λ c' z=>by rw [am (aB z nT)]; exact z) λ c' xs z=>by rw [am (aB z nT)]; exact z
     rcases hc' with rfl | hc'
     ·exact nfp _ _ q
     ·exact nfp _ _ hc'
  refine ⟨.ref T,upd H T (.tup [x,y]),J,rfl,⟨T,x,y,nT,λ zs hz=>by rw [I.list_inj hz hq1]; exact hx,λ zs hz=>by rw [I.list_inj hz hq2]; exact hy,rfl,rfl⟩,⟨st''.1,st''.2.1,st''.2.2.1,st''.2.2.2.1,st''.2.2.2.2.1⟩,λ b hb=>?_⟩;have nb:b≠T:=λ z=>aT (by rw [<- z]; exact hb);rw [am nb]; exact (hf b hb).1
 done:=by
  intro X hP hw hK hc i pins s σ H E I hf st hg;subst hP hw hK;obtain ⟨hin,xs,ys,hq1,hq2,hxl⟩:=hg;obtain ⟨its1,rv1,pl1,hz1⟩:=I.list hq1;obtain ⟨its2,rv2,pl2,hz2⟩:=I.list hq2;have hlen:min its1.toArray.size its2.toArray.size=n:=by rw [IL,IL,<- rv1.length,<- rv2.length]; exact hxl
  have W:=WalksT.zip2 (prog:=X.prog) (w:=X.w) (A:=X.A) (I.ok.hd hc) z TI TO i1 i2 l1 l2 D its1.toArray its2.toArray;rw [hin,<- hlen] at st;obtain ⟨s1,s2,s3,s4,s5⟩:=st;have wr:∀ b,b∉[z,TI,TO,i1,i2]->b∉[z,TO,i1,i2]:=λ b hb hm=>hb (by simp only [IY,J5,or_false] at hm ⊢; rcases hm with e | e | e | e <;> simp [e]);refine W.done s _ _ ⟨s1,s2,s3,s4,s5,pl1.isList,pl2.isList⟩ λ h' tk kp=>⟨rfl,?_⟩;have nfp:∀ b o,H b=some o->b∉[z,TI,TO,i1,i2]:=λ b o q hb=>by rw [(hf b hb).1] at q; cases q
  refine I.step (h':=h') (g':=s.gens) (d':=s.drawn) (t':=tk) (ch:=[z,TI,TO,i1,i2]) (λ b hb=>⟨(hf b hb).2.2.2.1,(hf b hb).2.1,(hf b hb).2.2.2.2.1,(hf b hb).2.2.2.2.2⟩)
   (λ b o _ _ hb q _=>kp b o (wr b hb) q) (λ b o _ _ hb q _=>⟨o.slots,kp b o (wr b hb) q⟩) (λ _ _ _ _ n=>n) (λ b o hb q=>⟨o,kp b o (wr b hb) q⟩)
   (λ _ _ q=>q) (λ _ _ _ q=>q) (λ b ps q=>⟨#[],by rw [q]; simp⟩) (λ m hm=>?_) (λ b o q=>?_) I.bare
  ·obtain ⟨o,es,ep,ho,r⟩:=hm;exact ⟨o,es,ep,kp _ o (wr _ λ hb=>(hf _ hb).2.1 rfl) ho,r⟩
  ·refine (I.hok b o q).stay (λ c' v hc' z=>kp c' v (wr _ ?_) z) (λ _ z=>z) λ _ _ z=>z;rcases hc' with rfl | hc'
   ·exact nfp _ _ q
   ·exact nfp _ _ hc'
 self:=λ A i s Q E st h=>wpAny_pyIter_zip st.1 h
section
variable {X:Cx} {B:Bd} {a b:Expr} {fs:En->Option (List Iw)} {pos pp:Pos}
noncomputable def zpD:List Iw->List Iw->List Iw
 | x::xs,y::ys=>.tuple [x,y]::zpD xs ys
 | _,_=>[]
noncomputable def zpL (ds:List Iw):Option (List Iw):=match ds with
 | [.list xs,.list ys]=>some (zpD xs ys)
 | _=>none
theorem wA:∀ xs ys:List Iw,(zpD xs ys).length=min xs.length ys.length
 | [],ys=>by simp [zpD]
 | x::xs,[]=>by simp [zpD]
 | x::xs,y::ys=>by rw [zpD,IX,wA xs ys,IX,IX]; omega
theorem zC:∀ (xs ys:List Iw) (i:Nat) (d:Iw),(zpD xs ys)[i]?=some d->∃ x y,xs[i]?=some x/\ys[i]?=some y/\d=.tuple [x,y]
 | [],ys,i,d,h=>by simp [zpD] at h
 | x::xs,[],i,d,h=>by simp [zpD] at h
 | x::xs,y::ys,0,d,h=>by simp [zpD] at h; exact ⟨x,y,rfl,rfl,h.symm⟩
 | x::xs,y::ys,i+1,d,h=>by
  rw [zpD,List.getElem?_cons_succ] at h;obtain ⟨a,b,h1,h2,h3⟩:=zC xs ys i d h;exact ⟨a,b,by simpa using h1,by simpa using h2,h3⟩
theorem Ea {K:Iv} {F:Hp} {l1 l2:IS} {ds es:List Iw} {xs ys:List V} (hq1:SqL K F l1 xs) (hq2:SqL K F l2 ys) (r1:RelL K F ds xs) (r2:RelL K F es ys):ItP K (Itz K l1 l2 (min ds.length es.length)) F (zpD ds es):=λ F1 H1 i s1 s2=>by
 have q1:SqL K H1 l1 xs:=s2.seq (s1.seq hq1);have q2:SqL K H1 l2 ys:=s2.seq (s1.seq hq2);have hl:min xs.length ys.length=min ds.length es.length:=by rw [r1.length,r2.length]
 refine ⟨λ d e=>?_,λ e=>⟨by rw [e,wA],xs,ys,q1,q2,hl⟩⟩;have hi:i < min ds.length es.length:=by
  have:=(ID.mp e).1
  rwa [wA] at this
 obtain ⟨x,y,h1,h2,h3⟩:=zC _ _ _ _ e;obtain ⟨vx,hx,rx⟩:=r1.get h1;obtain ⟨vy,hy,ry⟩:=r2.get h2;refine ⟨⟨hi,xs,ys,vx,vy,q1,q2,hl,hx,hy⟩,λ v H2 z=>?_⟩;obtain ⟨T,x',y',hT,hxx,hyy,rfl,rfl⟩:=z;have e1:=(hxx xs q1).symm.trans hx;have e2:=(hyy ys q2).symm.trans hy;cases e1;cases e2;subst h3;have g:=Gr.one (o:=.tup [vx,vy]) s2 hT;exact ⟨_,g,iD (SqT.of aw) (.cons (rx.mono (s1.trans g.ff)) (.cons (ry.mono (s1.trans g.ff)) .nil))⟩
end
section
variable {X:Cx} {B:Bd} {a b:Expr} {fs:En->Option (List Iw)} {pos pp:Pos}
theorem I.zip {elts:List Expr} {k:Nat} {tp:Pos} (hm:X.mg "zip" = none) (ha:A X B [a,b] fs) (hg:Gl X "zip" := by rfl) (hs:II [a,b] X.env=(false,eval a X.env)::II [b] X.env:=by exact cg rfl) (hpl:(backTo pos (II [b] X.env)).any (·.1)=false:=by exact jE rfl) :
  I X B (.Tuple elts k tp) (.Call (.Name "zip" pp) [a,b] [] pos) (λ η=>(fs η).bind zpL):=by
 intro pins s σ H R I ⟨F,η,ds,sr,hd,q⟩;obtain ⟨es,h1,hd⟩:=ab hd;unfold zpL at hd;split at hd
 ·rename_i x y;cases hd;refine Call_ (qT I hg hm boot_zip (PyProof.Rows.callWith_type1 (thn (ha pos pins s σ H (λ vs H1=>∃ F',Gr F H F' H1/\RelL X.K F' [.list x,.list y] vs) I ⟨F,η,_,sr,h1,λ vs F' H' g r=>⟨F',g,r⟩⟩) λ us s1 ⟨vs,H1,I1,r1,F1,g1,rl⟩=>?_) hs hpl));obtain ⟨v1,r,rfl,ry1,rr⟩:=rl.cons_of;obtain ⟨v2,r',rfl,ry2,rr⟩:=rr.cons_of;obtain rfl:=rr.nil_of;obtain ⟨p1,xs,rfl,hq1,rs1⟩:=ry1.lst;obtain ⟨p2,ys,rfl,hq2,rs2⟩:=ry2.lst;obtain ⟨u1,u2,rfl,ru1,ru2⟩:=Bc r1;cases ru1;cases ru2;obtain ⟨its1,rv1,pl1,hz1⟩:=I1.list (g1.fh.seq hq1);obtain ⟨its2,rv2,pl2,hz2⟩:=I1.list (g1.fh.seq hq2);have hpl1:p1 < s1.heap.objs.size:=by
   obtain ⟨o,ho,_⟩:=pl1.isList;exact IU ho
  have hpl2:p2 < s1.heap.objs.size:=by
   obtain ⟨o,ho,_⟩:=pl2.isList;exact IU ho
  refine call_zip_2 pl1.isList pl2.isList λ h' hz hTI hTO hi1 hi2 hsz hk=>?_;refine wpAny_pyIter_zip hz ?_;have I2:Inv X pins σ H1 { s1 with heap:=h' }:=I1.kept (t':=s1.toks) hk;have nw:∀ b,s1.heap.objs.size<=b->pZ X pins H1 b:=λ b hb=>I1.fpOk hb (I1.hok.fresh hb);have fpo:∀ b∈[s1.heap.objs.size+4,s1.heap.objs.size+2,s1.heap.objs.size+3,s1.heap.objs.size,s1.heap.objs.size+1],pZ X pins H1 b:=λ b hb=>nw b (by
   simp only [IY,J5,or_false] at hb;rcases hb with rfl | rfl | rfl | rfl | rfl <;> omega)
  exact ⟨_,_,_,_,H1,rfl,I2,Bg (n:=min x.length y.length) (zipApart_new hpl1 hpl2),⟨hz,hTI,⟨_,_,hTO⟩,hi1,hi2⟩,fpo,q _ F1 H1 g1 (Ea hq1 hq2 rs1 rs2)⟩
 ·cases hd
end
section
variable {X:Cx} {B:Bd} {e:Expr} {fs:En->Option (List Iw)} {pos pp:Pos}
noncomputable def Bs (K:Iv):List V->Hp->VK->Prop:=λ xs H Q=>∃ (p:IS) (ys:List V),xs=[.ref p]/\SqL K H p ys/\∀ l,H l=none->Q (.ref l) (upd H l (.lst ys))
theorem zp:CallR X (.type "list") (Bs X.K):=by
 intro pins s σ H xs us Q I r h;obtain ⟨p,ys,rfl,hp,q⟩:=h;obtain ⟨u,rfl,ru⟩:=oY r;cases ru;obtain ⟨its,rv,pl,hz⟩:=I.list hp;obtain ⟨o,ho,hc,n,hd⟩:=pl.isList;have hz':ys.length<=IB:=by first | exact hz | (rw [rv.length]; exact hz)
 refine call_list_seq (hsz:=by rw [IL,<- rv.length]; exact hz') p (.inl rfl) ho hc hd λ h' c' hk hD=>?_;exact ⟨.ref s.heap.objs.size,_,I.laid (t':=s.toks) hk (IF _) (o:=.lst ys) ⟨hz',its,c',rv,hD⟩,rfl,q _ (I.hok.fresh (IF _))⟩
noncomputable def wQ (ds:List Iw):Option Iw:=match ds with
 | [.list xs]=>some (.list xs)
 | _=>none
theorem CK {K:Iv}:AdA K (Bs K) wQ:=λ F H xs ds d Q sm rs e q=>by
 unfold wQ at e;split at e
 ·rename_i es;cases e;obtain ⟨x,r,rfl,rx,rr⟩:=rs.cons_of;obtain rfl:=rr.nil_of;obtain ⟨a,ys,rfl,hq,r1⟩:=rx.lst;refine ⟨a,ys,rfl,sm.seq hq,λ p hp=>?_⟩;have g:=Gr.one (o:=.lst ys) sm hp;exact q _ _ _ g (kB (SqL.of aw) (r1.mono g.ff))
 ·cases e
theorem E.listL (hm:X.mg "list" = none) (ha:A X B [e] fs) (hg:Gl X "list" := by rfl) (he:II [e] X.env=(false,eval e X.env)::II [] X.env:=by exact cg rfl) (hpl:(backTo pos (II [] X.env)).any (·.1)=false:=by rfl):E X B (.Call (.Name "list" pp) [e] [] pos) (lA wQ fs) :=
 E.callTy zp CK hm (by decide +kernel) ha hg (by decide) (by decide) he hpl
noncomputable def sBk:En->Option Out:=λ η=>some (.bk η)
theorem S.brk:S X B (.Break pos) sBk:=PS.imp Bz λ D σ H ⟨F,η,o,sr,hd,q⟩=>by
 cases hd;exact q σ F H sr (.refl _)
end
inductive D where
 | d (x:Iw)
 | r (n:Nat)
inductive Cell where
 | obj (k:Nat) (fs:List (Str×D))
 | lst (ds:List D)
 | dct (kvs:List (Key×D))
 | fz (x:Iw)
noncomputable abbrev Sto:=List Cell
noncomputable abbrev MEn:=List (Option D)
noncomputable def DR (K:Iv) (θ:List IS) (F:Hp):D->V->Prop
 | .d x,v=>Rel K F x v
 | .r n,v=>∃ a,θ[n]?=some a/\v=.ref a
noncomputable abbrev DRs (K:Iv) (θ:List IS) (F:Hp):List D->List V->Prop:=Paired (DR K θ F)
noncomputable abbrev DRf (K:Iv) (θ:List IS) (F:Hp):List (Str×D)->List (Str×V)->Prop:=Paired λ p q=>p.1=q.1/\DR K θ F p.2 q.2
noncomputable abbrev DRk (K:Iv) (θ:List IS) (F:Hp):List (Key×D)->List (Key×V)->Prop:=Paired λ p q=>p.1=q.1/\DR K θ F p.2 q.2
noncomputable def CelR (K:Iv) (cl:Nat->IS) (θ:List IS) (F H:Hp) (a:IS):Cell->Prop
 | .obj k fs=>F a=none/\Cls K (cl k)/\(∀ f∈fs.map (·.1),NoAttr K (cl k) f)/\∃ dx xs,H a=some (.ins (cl k) dx xs)/\DRf K θ F fs xs
 | .lst ds=>F a=none/\∃ xs,H a=some (.lst xs)/\DRs K θ F ds xs
 | .dct kvs=>F a=none/\∃ ks,H a=some (.dK ks)/\DRk K θ F kvs ks
 | .fz x=>Rel K F x (.ref a)/\∃ o,H a=some o
structure MR (K:Iv) (cl:Nat->IS) (θ:List IS) (F H:Hp) (s:Sto):Prop where
 sm:Same F H
 len:θ.length=s.length
 nd:θ.Nodup
 cel:∀ (n:Nat) a c,θ[n]?=some a->s[n]?=some c->CelR K cl θ F H a c
structure MV (K:Iv) (θ:List IS) (F:Hp) (σ:St) (η:MEn):Prop where
 len:η.length=σ.length
 val:∀ (i:Nat) d,η[i]?=some (some d)->∃ v,σ[i]?=some (some v)/\DR K θ F d v
section
variable {K:Iv} {cl:Nat->IS} {θ θ':List IS} {F F' H H':Hp} {s:Sto} {σ:St} {η:MEn}
theorem jD {α:Type} {l l':List α} (h:l<+:l') {n:Nat} {a:α} (e:l[n]?=some a):l'[n]?=some a:=by
 obtain ⟨t,rfl⟩:=h;rw [IC (ID.mp e).1]; exact e
theorem DR.mono (hp:θ<+:θ') (hs:Same F F'):∀ {d:D} {v:V},DR K θ F d v->DR K θ' F' d v
 | .d _,_,h=>Rel.mono hs h
 | .r _,_,⟨a,e1,e2⟩=>⟨a,jD hp e1,e2⟩
theorem DRs.mono (hp:θ<+:θ') (hs:Same F F') {ds:List D} {vs:List V} (h:DRs K θ F ds vs):DRs K θ' F' ds vs:=Paired.mapP h λ _ _ r=>DR.mono hp hs r
theorem DRf.mono (hp:θ<+:θ') (hs:Same F F') {ds:List (Str×D)} {vs:List (Str×V)} (h:DRf K θ F ds vs):DRf K θ' F' ds vs:=Paired.mapP h λ _ _ r=>⟨r.1,DR.mono hp hs r.2⟩
theorem DRk.mono (hp:θ<+:θ') (hs:Same F F') {ds:List (Key×D)} {vs:List (Key×V)} (h:DRk K θ F ds vs):DRk K θ' F' ds vs:=Paired.mapP h λ _ _ r=>⟨r.1,DR.mono hp hs r.2⟩
theorem MV.mono (hp:θ<+:θ') (hs:Same F F') (h:MV K θ F σ η):MV K θ' F' σ η:=⟨h.len,λ i d e=>let ⟨v,e1,e2⟩:=h.val i d e; ⟨v,e1,e2.mono hp hs⟩⟩
theorem MV.set (h:MV K θ F σ η) (i:Nat) {d:D} {v:V} (r:DR K θ F d v):MV K θ F (σ.set i (some v)) (η.set i (some d)):=by
 refine ⟨by rw [IZ,IZ]; exact h.len,λ j d' e=>?_⟩;by_cases hj:i=j
 ·subst hj;by_cases hl:i < η.length
  ·rw [IH hl] at e;have e':d=d':=Option.some.inj (Option.some.inj e);subst e';exact ⟨v,by rw [IH (by rw [<- h.len]; exact hl)],r⟩
  ·rw [Ji (by rw [IZ]; omega)] at e; cases e
 ·rw [Iz hj] at e ⊢; exact h.val j d' e
theorem DRs.get {ds:List D} {vs:List V} (h:DRs K θ F ds vs) {i:Nat} {d:D} (e:ds[i]?=some d):∃ v,vs[i]?=some v/\DR K θ F d v:=by
 induction h generalizing i with
 | nil=>simp at e
 | @cons a b as bs r t ih =>
  cases i with
  | zero=>simp at e; subst e; exact ⟨b,rfl,r⟩
  | succ i=>exact ih (by simpa using e)
theorem MR.grow (m:MR K cl θ F H s) (g:Gr F H F' H'):MR K cl θ F' H' s where
 sm:=g.fh
 len:=m.len
 nd:=m.nd
 cel:=λ n a c e1 e2=>by
  have q:=m.cel n a c e1 e2;have fr:F a=none->∀ o,H a=some o->F' a=none:=λ hF o hH=>by
   cases z:F' a with
   | none=>rfl
   | some u =>
    rcases g.new a (by rw [z]; simp) with y | y
    ·exact absurd hF y
    ·rw [hH] at y; cases y
  cases c with
  | obj k fs =>
   obtain ⟨h1,h2,h3,dx,xs,h4,h5⟩:=q;exact ⟨fr h1 _ h4,h2,h3,dx,xs,g.hh _ _ h4,h5.mono (Jj _) g.ff⟩
  | lst ds =>
   obtain ⟨h1,xs,h4,h5⟩:=q;exact ⟨fr h1 _ h4,xs,g.hh _ _ h4,h5.mono (Jj _) g.ff⟩
  | dct kvs =>
   obtain ⟨h1,xs,h4,h5⟩:=q;exact ⟨fr h1 _ h4,xs,g.hh _ _ h4,h5.mono (Jj _) g.ff⟩
  | fz x=>exact ⟨Rel.mono g.ff q.1,let ⟨o,e⟩:=q.2; ⟨o,g.hh _ _ e⟩⟩
noncomputable def Mu:Cell->Bool
 | .fz _=>false
 | _=>true
theorem CelR.mut {a:IS} {c:Cell} (h:CelR K cl θ F H a c) (hm:Mu c=true):F a=none/\∃ o,H a=some o:=by
 cases c with
 | obj k fs=>obtain ⟨h1,_,_,dx,xs,h4,_⟩:=h; exact ⟨h1,_,h4⟩
 | lst ds=>obtain ⟨h1,xs,h4,_⟩:=h; exact ⟨h1,_,h4⟩
 | dct kvs=>obtain ⟨h1,xs,h4,_⟩:=h; exact ⟨h1,_,h4⟩
 | fz x=>cases hm
theorem CelR.else {a b:IS} {o:HO} {c:Cell} (h:CelR K cl θ F H a c) (hne:a≠b):CelR K cl θ F (upd H b o) a c:=by
 cases c with
 | obj k fs=>obtain ⟨h1,h2,h3,dx,xs,h4,h5⟩:=h; exact ⟨h1,h2,h3,dx,xs,by rw [am hne]; exact h4,h5⟩
 | lst ds=>obtain ⟨h1,xs,h4,h5⟩:=h; exact ⟨h1,xs,by rw [am hne]; exact h4,h5⟩
 | dct kvs=>obtain ⟨h1,xs,h4,h5⟩:=h; exact ⟨h1,xs,by rw [am hne]; exact h4,h5⟩
 | fz x=>exact ⟨h.1,let ⟨o,e⟩:=h.2; ⟨o,by rw [am hne]; exact e⟩⟩
theorem CelR.pre {a:IS} {c:Cell} (hp:θ<+:θ') (h:CelR K cl θ F H a c):CelR K cl θ' F H a c:=by
 cases c with
 | obj k fs=>obtain ⟨h1,h2,h3,dx,xs,h4,h5⟩:=h; exact ⟨h1,h2,h3,dx,xs,h4,h5.mono hp (.refl _)⟩
 | lst ds=>obtain ⟨h1,xs,h4,h5⟩:=h; exact ⟨h1,xs,h4,h5.mono hp (.refl _)⟩
 | dct kvs=>obtain ⟨h1,xs,h4,h5⟩:=h; exact ⟨h1,xs,h4,h5.mono hp (.refl _)⟩
 | fz x=>exact h
theorem ET {l:List IS} (h:l.Nodup) {i j:Nat} {a b:IS} (e1:l[i]?=some a) (e2:l[j]?=some b) (hne:i≠j):a≠b:=λ z=>by
 subst z;obtain ⟨l1,q1⟩:=ID.mp e1;obtain ⟨l2,q2⟩:=ID.mp e2;have pw:=List.pairwise_iff_getElem.mp h;rcases Nat.lt_or_gt_of_ne hne with z | z
 ·exact pw i j l1 l2 z (q1.trans q2.symm)
 ·exact pw j i l2 l1 z (q2.trans q1.symm)
theorem MR.put (m:MR K cl θ F H s) {n:Nat} {a:IS} {c c':Cell} {o:HO} (e1:θ[n]?=some a) (e2:s[n]?=some c) (hm:Mu c=true) (h:CelR K cl θ F (upd H a o) a c'):MR K cl θ F (upd H a o) (s.set n c') where
 sm:=λ b u q=>by
  have nb:b≠a:=aB q (CelR.mut (m.cel n a c e1 e2) hm).1;rw [am nb]; exact m.sm b u q
 len:=by rw [IZ]; exact m.len
 nd:=m.nd
 cel:=λ k b c2 f1 f2=>by
  by_cases hk:n=k
  ·subst hk;rw [IH (ID.mp e2).1] at f2;cases f2;rw [e1] at f1;cases f1;exact h
  ·rw [Iz hk] at f2;exact (m.cel k b c2 f1 f2).else (ET m.nd f1 e1 (Ne.symm hk))
theorem CelR.there {a:IS} {c:Cell} (h:CelR K cl θ F H a c):∃ o,H a=some o:=by
 cases c with
 | obj k fs=>obtain ⟨_,_,_,dx,xs,h4,_⟩:=h; exact ⟨_,h4⟩
 | lst ds=>obtain ⟨_,xs,h4,_⟩:=h; exact ⟨_,h4⟩
 | dct kvs=>obtain ⟨_,xs,h4,_⟩:=h; exact ⟨_,h4⟩
 | fz x=>exact h.2
theorem MR.ne (m:MR K cl θ F H s) {a:IS} (ha:H a=none) {k:Nat} {b:IS} (e:θ[k]?=some b):b≠a:=λ z=>by
 subst z;have hk:k < s.length:=by rw [<- m.len]; exact (ID.mp e).1
 obtain ⟨o,h⟩:=(m.cel k b _ e (Jb hk)).there;rw [ha] at h; cases h
theorem MR.new (m:MR K cl θ F H s) {a:IS} {c:Cell} {o:HO} (ha:H a=none) (h:CelR K cl (θ++[a]) F (upd H a o) a c):MR K cl (θ++[a]) F (upd H a o) (s++[c]) where
 sm:=λ b u q=>by
  have nb:b≠a:=aB q (m.sm.free ha);rw [am nb]; exact m.sm b u q
 len:=by rw [IA,IA,m.len]; rfl
 nd:=by
  rw [List.nodup_append];refine ⟨m.nd,by simp,λ b hb b' hb'=>?_⟩;rw [Jc.mp hb'];obtain ⟨k,hk⟩:=KC hb;exact m.ne ha hk
 cel:=λ k b c2 f1 f2=>by
  by_cases hk:k < θ.length
  ·rw [IC hk] at f1;rw [IC (by rw [<- m.len]; exact hk)] at f2;exact ((m.cel k b c2 f1 f2).else (m.ne ha f1)).pre (J8 _ _)
  ·have hk1:k=θ.length:=by
    have:=(ID.mp f1).1
    rw [IA] at this;have e1:[a].length=1:=rfl;omega
   subst hk1;rw [IJ (IF _),Jq] at f1;rw [IJ (by rw [m.len]; exact IF _),m.len,Jq] at f2;cases f1;cases f2;exact h
theorem MR.more (m:MR K cl θ F H s) {a:IS} {o:HO} (ha:H a=none):MR K cl θ F (upd H a o) s where
 sm:=λ b u q=>by
  have nb:b≠a:=aB q (m.sm.free ha);rw [am nb]; exact m.sm b u q
 len:=m.len
 nd:=m.nd
 cel:=λ k b c f1 f2=>(m.cel k b c f1 f2).else (m.ne ha f1)
end
structure Wd where
 η:MEn
 s:Sto
noncomputable def pD (s:Sto):D->Option Iw
 | .d x=>some x
 | .r n=>match s[n]? with | some (.fz x)=>some x | _=>none
noncomputable def E1:D->Option Iw
 | .d x=>some x
 | .r _=>none
noncomputable def ua:List D->Option (List Iw)
 | []=>some []
 | d::r=>(E1 d).bind λ x=>(ua r).bind λ xs=>some (x::xs)
noncomputable def xh:List (Key×D)->Option (List (Key×Iw))
 | []=>some []
 | (k,d)::r=>(E1 d).bind λ x=>(xh r).bind λ xs=>some ((k,x)::xs)
noncomputable def lD (s:Sto):D->Option Iw
 | .d x=>some x
 | .r n=>match s[n]? with
  | some (.fz x)=>some x
  | some (.lst ds)=>(ua ds).bind λ xs=>some (.list xs)
  | some (.dct kvs)=>(xh kvs).bind λ xs=>some (.dict (prs xs))
  | _=>none
noncomputable def vwS (g:D->Option Iw) (s:Sto):Option D->Sl
 | none=>.un
 | some (.d x)=>.val x
 | some (.r n)=>match s[n]? with
  | some (.obj _ fs)=>.ob λ f=>(fs.lookup f).bind g
  | _=>match g (.r n) with | some x=>.val x | none=>.un
noncomputable def vw (w:Wd):En:=w.η.map (vwS (pD w.s) w.s)
section
variable {K:Iv} {cl:Nat->IS} {θ θ':List IS} {F F' H H':Hp} {s:Sto} {σ:St} {η:MEn} {w:Wd}
theorem DRf.look {fs:List (Str×D)} {xs:List (Str×V)} (h:DRf K θ F fs xs) (f:Str):(∀ d,fs.lookup f=some d->∃ v,xs.lookup f=some v/\DR K θ F d v)/\(fs.lookup f=none->xs.lookup f=none):=by
 induction h with
 | nil=>exact ⟨λ d e=>(by cases e),λ _=>rfl⟩
 | @cons a b as bs r t ih =>
  obtain ⟨ka,da⟩:=a;obtain ⟨kb,vb⟩:=b;have e:ka=kb:=r.1;subst e;by_cases hk:f=ka
  ·subst hk;simp only [List.lookup_cons_self];exact ⟨λ d e=>(by cases e; exact ⟨vb,rfl,r.2⟩),λ e=>(by cases e)⟩
  ·have hb:(f==ka)=false:=by simpa using hk
   simp only [JY,hb];exact ih
theorem u6 {fs:List (Str×D)} {f:Str} {d:D} (h:fs.lookup f=some d):f∈fs.map (·.1):=by
 induction fs with
 | nil=>cases h
 | cons a r ih =>
  obtain ⟨k,x⟩:=a;by_cases hk:f=k
  ·subst hk; simp
  ·have hb:(f==k)=false:=by simpa using hk
   simp only [JY,hb] at h;exact IQ _ (ih h)
noncomputable def Sees (K:Iv) (θ:List IS) (F Fv:Hp) (g:D->Option Iw):Prop:=∀ d x v,g d=some x->DR K θ F d v->Rel K Fv x v
theorem Gz {g:D->Option Iw} {Fv:Hp} (m:MR K cl θ F H s) (e:MV K θ F σ η) (hs:Same Fv H) (hg:Sees K θ F Fv g) (hd:∀ x,g (.d x)=some x):SR K ⟨Fv,H⟩ Fv H σ (η.map (vwS g s)):=by
 have no:∀ (i:Nat) a,(η.map (vwS g s))[i]?=some a->j4 a=false:=λ i a q=>by
  rw [IP] at q;cases h:η[i]? with
  | none=>rw [h] at q; cases q
  | some o =>
   rw [h] at q;have q':vwS g s o=a:=Option.some.inj q;subst q';unfold vwS
   split
   ·rfl
   ·rfl
   ·split
    ·rfl
    ·split <;> rfl
 refine ⟨.refl hs,⟨by rw [Iy]; exact e.len,λ i x q=>?_,λ i a q ha=>(by rw [no i a q] at ha; cases ha),λ i _ a _ q _ ha _ _=>(by rw [no i a q] at ha; cases ha),λ i fs q=>?_⟩⟩
 ·rw [IP] at q;cases h:η[i]? with
  | none=>rw [h] at q; cases q
  | some o =>
   rw [h] at q;have q':vwS g s o=.val x:=Option.some.inj q;unfold vwS at q';split at q'
   ·cases q'
   ·rename_i y
    have:y=x:=by injection q'
    subst this;obtain ⟨v,e1,e2⟩:=e.val i _ h;exact ⟨v,e1,hg _ _ _ (hd y) e2⟩
   ·rename_i n;split at q'
    ·cases q'
    ·split at q'
     ·rename_i y hy
      have:y=x:=by injection q'
      subst this;obtain ⟨v,e1,e2⟩:=e.val i _ h;exact ⟨v,e1,hg _ _ _ hy e2⟩
     ·cases q'
 ·rw [IP] at q;cases h:η[i]? with
  | none=>rw [h] at q; cases q
  | some o =>
   rw [h] at q;have q':vwS g s o=.ob fs:=Option.some.inj q;unfold vwS at q';split at q'
   ·cases q'
   ·cases q'
   ·rename_i n;split at q'
    ·rename_i k fs0 hc
     have:(λ f=>(fs0.lookup f).bind g)=fs:=by injection q'
     subst this;obtain ⟨v,e1,a,e2,e3⟩:=e.val i _ h;subst e3;obtain ⟨h1,h2,h3,dx,xs,h4,h5⟩:=m.cel n a _ e2 hc;refine ⟨a,cl k,dx,xs,e1,h4,h2,λ f d hf=>?_⟩;obtain ⟨D',hl,hx⟩:=ab hf;obtain ⟨v,e5,e6⟩:=(h5.look f).1 D' hl;exact ⟨h3 f (u6 hl),v,e5,hg _ _ _ hx e6⟩
    ·split at q' <;> cases q'
theorem uD (m:MR K cl θ F H s):Sees K θ F F (pD s):=λ d x v h r=>by
 cases d with
 | d y=>cases h; exact r
 | r n =>
  have h:(match s[n]? with | some (.fz x)=>some x | _=>none)=some x:=h;split at h
  ·rename_i y hy;cases h;obtain ⟨a,e1,e2⟩:=r;subst e2;exact (m.cel n a _ e1 hy).1
  ·cases h
theorem MR.vw (m:MR K cl θ F H w.s) (e:MV K θ F σ w.η):SR K ⟨F,H⟩ F H σ (vw w):=Gz m e m.sm (uD m) λ _=>rfl
noncomputable def tG (θ:List IS) (F H:Hp):Hp:=λ b=>match F b with | some o=>some o | none=>if b∈θ then H b else none
theorem D1 (θ:List IS) (F H:Hp):Same F (tG θ F H):=λ b u q=>by unfold tG; rw [q]
theorem D3 {θ:List IS} {F H:Hp} (h:Same F H):Same (tG θ F H) H:=λ b u q=>by
 unfold tG at q;split at q
 ·rename_i o ho; rw [<- q]; exact h _ _ ho
 ·split at q
  ·exact q
  ·cases q
theorem Ac {θ:List IS} {F H:Hp} {n:Nat} {a:IS} {o:HO} (e:θ[n]?=some a) (hF:F a=none) (hH:H a=some o):tG θ F H a=some o:=by
 unfold tG;rw [hF];dsimp only;rw [if_pos (KB e)]; exact hH
theorem yu {ds:List D} {xs:List V} (h:DRs K θ F ds xs):∀ {ys:List Iw},ua ds=some ys->RelL K F ys xs:=by
 induction h with
 | nil=>intro ys e; cases e; exact .nil
 | @cons a b as bs r t ih =>
  intro ys e;unfold ua at e;obtain ⟨x,h1,e⟩:=ab e;obtain ⟨zs,h2,e⟩:=ab e;cases e;cases a with
  | d y=>cases h1; exact .cons r (ih h2)
  | r n=>cases h1
theorem yr {ds:List (Key×D)} {xs:List (Key×V)} (h:DRk K θ F ds xs):∀ {ys:List (Key×Iw)},xh ds=some ys->RelD K F (prs ys) xs:=by
 induction h with
 | nil=>intro ys e; cases e; exact .nil
 | @cons a b as bs r t ih =>
  intro ys e;obtain ⟨ka,da⟩:=a;obtain ⟨kb,vb⟩:=b;have hk:ka=kb:=r.1;subst hk;unfold xh at e;obtain ⟨x,h1,e⟩:=ab e;obtain ⟨zs,h2,e⟩:=ab e;cases e;cases da with
  | d y=>cases h1; exact RelD.cons r.2 (ih h2)
  | r n=>cases h1
theorem Bo (m:MR K cl θ F H s):Sees K θ F (tG θ F H) (lD s):=λ d x v h r=>by
 have sm:=D1 θ F H;cases d with
 | d y=>cases h; exact Rel.mono sm r
 | r n =>
  have h:(match s[n]? with | some (.fz x)=>some x | some (.lst ds)=>(ua ds).bind λ xs=>some (.list xs) | some (.dct kvs)=>(xh kvs).bind λ xs=>some (.dict (prs xs)) | _=>none)=some x:=h;obtain ⟨a,e1,e2⟩:=r;subst e2;split at h
  ·rename_i y hy;cases h;exact Rel.mono sm (m.cel n a _ e1 hy).1
  ·rename_i ds hy;obtain ⟨ys,h1,h2⟩:=ab h;cases h2;obtain ⟨q1,xs,q2,q3⟩:=m.cel n a _ e1 hy;exact kB (SqL.of (Ac e1 q1 q2)) ((yu q3 h1).mono sm)
  ·rename_i kvs hy;obtain ⟨ys,h1,h2⟩:=ab h;cases h2;obtain ⟨q1,ks,q2,q3⟩:=m.cel n a _ e1 hy;exact zL (.inl (Ac e1 q1 q2)) ((yr q3 h1).mono sm)
  ·cases h
end
noncomputable abbrev MF:=Wd->Option (D×Sto)
noncomputable abbrev MFs:=Wd->Option (List D×Sto)
section
variable (K:Iv) (cl:Nat->IS)
noncomputable def tM (f:MF):TE:=λ σ H Q=>∃ θ F w d s',MR K cl θ F H w.s/\MV K θ F σ w.η/\f w=some (d,s')/\∀ v θ' F' H',θ<+:θ'->Same F F'->MR K cl θ' F' H' s'->DR K θ' F' d v->Q v H'
noncomputable def tMT (f:Wd->Option (Bool×Sto)):TT:=λ σ H Q=>∃ θ F w b s',MR K cl θ F H w.s/\MV K θ F σ w.η/\f w=some (b,s')/\∀ θ' F' H',θ<+:θ'->Same F F'->MR K cl θ' F' H' s'->Q b H'
noncomputable def tMA (f:MFs):TA:=λ σ H Q=>∃ θ F w ds s',MR K cl θ F H w.s/\MV K θ F σ w.η/\f w=some (ds,s')/\∀ vs θ' F' H',θ<+:θ'->Same F F'->MR K cl θ' F' H' s'->DRs K θ' F' ds vs->Q vs H'
end
noncomputable def ME (X:Cx) (cl:Nat->IS) (e:Expr) (f:MF):Prop:=PE X e (tM X.K cl f)
noncomputable abbrev MTF:=Wd->Option (Bool×Sto)
noncomputable def MT (X:Cx) (cl:Nat->IS) (e:Expr) (f:MTF):Prop:=PT X e (tMT X.K cl f)
noncomputable def MTW (X:Cx) (cl:Nat->IS) (e:Expr) (f:MTF):Prop:=PW X e (tMT X.K cl f)
noncomputable def MA (X:Cx) (cl:Nat->IS) (es:List Expr) (f:MFs):Prop:=PA X es (tMA X.K cl f)
noncomputable def mP (f:En->Option Iw):MF:=λ w=>(f (vw w)).bind λ x=>some (.d x,w.s)
noncomputable def mN (f:En->Option (List Iw)):MF:=λ w=>(f (vw w)).bind λ xs=>some (.r w.s.length,w.s++[.lst (xs.map .d)])
noncomputable def mV (i:Nat):MF:=λ w=>match w.η[i]? with | some (some d)=>some (d,w.s) | _=>none
noncomputable def tPv (f:En->Option Bool):MTF:=λ w=>(f (vw w)).bind λ b=>some (b,w.s)
section
variable {X:Cx} {cl:Nat->IS} {a b c e o:Expr} {es:List Expr} {f g:MF} {fs:MFs} {p:En->Option Iw} {ps:En->Option (List Iw)} {pt:En->Option Bool} {pos:Pos}
theorem aj (h:∀ B,E X B e p):ME X cl e (mP p):=λ pins s σ H Q I ⟨θ,F,w,d,s',m,v,hf,q⟩=>by
 obtain ⟨x,hx,hf⟩:=ab hf;cases hf;exact h ⟨F,H⟩ pins s σ H Q I ⟨F,vw w,x,m.vw v,hx,λ u F' H' g r=>q u θ F' H' (Jj _) g.ff (m.grow g) r⟩
theorem Ab {K:Iv} {F H F' H':Hp} {p:IS} {xs:List V} {ds:List Iw} (sm:Same F H) (g:Gr F H F' H') (hp:H p=none) (fp:F' p=none) (hp':H' p=some (.lst xs)) (rs:RelL K F' ds xs):Gr F H (upd F' p (.lst xs)) H'/\Rel K (upd F' p (.lst xs)) (.list ds) (.ref p):=by
 have sn:=fu (H:=F') fp (.lst xs);refine ⟨⟨g.ff.trans sn,g.hh,λ b u z=>?_,λ b z=>?_⟩,kB (SqL.of aw) (rs.mono sn)⟩
 ·by_cases e:b=p
  ·subst e; rw [aw] at z; rw [<- z]; exact hp'
  ·rw [am e] at z; exact g.fh _ _ z
 ·by_cases e:b=p
  ·subst e; exact .inr hp
  ·rw [am e] at z; exact g.new b z
theorem yP {K:Iv} {θ:List IS} {F:Hp}:∀ {xs:List Iw} {vs:List V},RelL K F xs vs->DRs K θ F (xs.map .d) vs
 | [],_,h=>by rw [h.nil_of]; exact .nil
 | x::xs,vs,h=>by
  obtain ⟨v,r,rfl,h1,h2⟩:=h.cons_of;exact .cons h1 (yP h2)
theorem ME.nw (h:∀ B,EO X B e ps):ME X cl e (mN ps):=λ pins s σ H Q I ⟨θ,F,w,d,s',m,v,hf,q⟩=>by
 obtain ⟨x,hx,hf⟩:=ab hf;cases hf;refine h ⟨F,H⟩ pins s σ H Q I ⟨F,vw w,x,m.vw v,hx,λ p xs F' H' g hp fp hp' rs=>?_⟩;have m1:=m.grow g;have na:∀ (k:Nat) b,θ[k]?=some b->b≠p:=λ k b e=>m.ne hp e;have pre:θ<+:θ++[p]:=J8 _ _;refine q _ (θ++[p]) F' H' pre g.ff ⟨m1.sm,by rw [IA,IA,m1.len]; rfl,?_,λ k b c2 f1 f2=>?_⟩ ⟨p,by rw [<- m.len,IJ (IF _),Jq]; rfl,rfl⟩
 ·rw [List.nodup_append];refine ⟨m.nd,by simp,λ b hb b' hb'=>?_⟩;rw [Jc.mp hb'];obtain ⟨k,hk⟩:=KC hb;exact na k b hk
 ·by_cases hk:k < θ.length
  ·rw [IC hk] at f1;rw [IC (by rw [<- m.len]; exact hk)] at f2;exact (m1.cel k b c2 f1 f2).pre pre
  ·have hk1:k=θ.length:=by
    have:=(ID.mp f1).1
    rw [IA] at this;have e1:[p].length=1:=rfl;omega
   subst hk1;rw [IJ (IF _),Jq] at f1;rw [IJ (by rw [m.len]; exact IF _),m.len,Jq] at f2;cases f1;cases f2;exact ⟨fp,xs,hp',yP rs⟩
theorem bv (i:Nat) {x:Str} (hN:X.N[i]?=some x:=by rfl) (hv:Vis X.env.scope x:=by first | exact Or.inl rfl | exact Or.inr (Or.inl rfl) | exact Or.inr (Or.inr rfl)) (hd:(x==("__debug__" : Str))=false:=by decide)
  (hcd:(x==("__classdict__" : Str))=false:=by decide):ME X cl (.Name x pos) (mV i) :=
 PE.imp (qM hN hv hd hcd) λ σ H Q ⟨θ,F,w,d,s',m,v,hf,q⟩=>by
  unfold mV at hf;split at hf
  ·rename_i d' e;cases hf;obtain ⟨u,e1,e2⟩:=v.val i _ e;exact ⟨u,e1,q u θ F H (Jj _) (.refl _) m e2⟩
  ·cases hf
theorem jV (h:∀ B,T X B e pt):MT X cl e (tPv pt):=λ pins s σ H Q I ⟨θ,F,w,b,s',m,v,hf,q⟩=>by
 obtain ⟨c,hx,hf⟩:=ab hf;cases hf;exact h ⟨F,H⟩ pins s σ H Q I ⟨F,vw w,_,m.vw v,hx,λ F' H' g=>q θ F' H' (Jj _) g.ff (m.grow g)⟩
noncomputable def xE (f g:MTF):MTF:=λ w=>(f w).bind λ r=>if r.1=true then g ⟨w.η,r.2⟩ else some (false,r.2)
variable {ta tb:MTF} {rest:List Expr}
theorem MTW.t (h:MTW X cl a ta):MT X cl a ta:=PW.pt h
theorem MTW.and1 (ha:MT X cl a ta):MTW X cl (.BoolOp .And [a] pos) ta:=pw_and1 ha
theorem MTW.and (ha:MT X cl a ta) (hb:MTW X cl (.BoolOp .And (b::rest) pos) tb):MTW X cl (.BoolOp .And (a::b::rest) pos) (xE ta tb):=PW.imp (pw_and ha hb) λ σ H Q ⟨θ,F,w,b,s',m,v,hf,q⟩=>by
 obtain ⟨⟨c,s1⟩,hx,hf⟩:=ab hf;refine ⟨θ,F,w,c,s1,m,v,hx,λ θ1 F1 H1 p1 q1 m1=>?_⟩;cases c with
 | false =>
  rw [if_neg IT] at hf ⊢;cases hf;exact q θ1 F1 H1 p1 q1 m1
 | true =>
  rw [if_pos rfl] at hf ⊢;exact ⟨θ1,F1,⟨w.η,s1⟩,b,s',m1,v.mono p1 q1,hf,λ θ2 F2 H2 p2 q2 m2=>q θ2 F2 H2 (p1.trans p2) (q1.trans q2) m2⟩
noncomputable def mOp (o:Iw->Iw->Option Iw) (f g:MF):MF:=λ w=>(f w).bind λ r=>(g ⟨w.η,r.2⟩).bind λ q=>(pD q.2 r.1).bind λ x=>(pD q.2 q.1).bind λ y=>(o x y).bind λ z=>some (.d z,q.2)
noncomputable def AN (o:Iw->Iw->Option Iw) (f g:MF):MF:=λ w=>(f w).bind λ r=>(g ⟨w.η,r.2⟩).bind λ q=>(lD q.2 r.1).bind λ x=>(lD q.2 q.1).bind λ y=>(o x y).bind λ z=>if iS z=true then some (.d z,q.2) else none
theorem EQ {r:R2} {o:Iw->Iw->Option Iw} (ad:Ad2 X.K r o):∀ σ H Q,tM X.K cl (mOp o f g) σ H Q->tOp r (tM X.K cl f) (tM X.K cl g) σ H Q:=λ σ H Q ⟨θ,F,w,d,s',m,v,hf,q⟩=>by
 obtain ⟨⟨d1,s1⟩,h1,hf⟩:=ab hf;obtain ⟨⟨d2,s2⟩,h2,hf⟩:=ab hf;obtain ⟨x,hx,hf⟩:=ab hf;obtain ⟨y,hy,hf⟩:=ab hf;obtain ⟨z,hz,hf⟩:=ab hf;cases hf;refine ⟨θ,F,w,d1,s1,m,v,h1,λ u θ1 F1 H1 p1 q1 m1 r1=>⟨θ1,F1,⟨w.η,s1⟩,d2,_,m1,v.mono p1 q1,h2,λ u2 θ2 F2 H2 p2 q2 m2 r2=>?_⟩⟩;exact ad F2 H2 u u2 x y z Q m2.sm (uD m2 _ _ _ hx (r1.mono p2 q2)) (uD m2 _ _ _ hy r2) hz λ t F3 H3 g3 rt=>q t θ2 F3 H3 (p1.trans p2) (q1.trans (q2.trans g3.ff)) (m2.grow g3) rt
theorem FN {r:R2} {o:Iw->Iw->Option Iw} (ad:Ad2 X.K r o):∀ σ H Q,tM X.K cl (AN o f g) σ H Q->tOp r (tM X.K cl f) (tM X.K cl g) σ H Q:=λ σ H Q ⟨θ,F,w,d,s',m,v,hf,q⟩=>by
 obtain ⟨⟨d1,s1⟩,h1,hf⟩:=ab hf;obtain ⟨⟨d2,s2⟩,h2,hf⟩:=ab hf;obtain ⟨x,hx,hf⟩:=ab hf;obtain ⟨y,hy,hf⟩:=ab hf;obtain ⟨z,hz,hf⟩:=ab hf;split at hf
 ·rename_i hfl;cases hf;refine ⟨θ,F,w,d1,s1,m,v,h1,λ u θ1 F1 H1 p1 q1 m1 r1=>⟨θ1,F1,⟨w.η,s1⟩,d2,_,m1,v.mono p1 q1,h2,λ u2 θ2 F2 H2 p2 q2 m2 r2=>?_⟩⟩;exact ad (tG θ2 F2 H2) H2 u u2 x y z Q (D3 m2.sm) (Bo m2 _ _ _ hx (r1.mono p2 q2)) (Bo m2 _ _ _ hy r2) hz λ t F3 H3 g3 rt=>q t θ2 F2 H3 (p1.trans p2) (q1.trans q2) (m2.grow (Gr.back m2.sm g3)) (yk hfl rt)
 ·cases hf
theorem ME.op {op:Operator} {r:R2} {oo:Iw->Iw->Option Iw} (ho:OpR X (binaryOp op) r) (ad:Ad2 X.K r oo) (ha:ME X cl a f) (hb:ME X cl b g):ME X cl (.BinOp a op b pos) (mOp oo f g):=PE.imp (EM ho ha hb) (EQ ad)
theorem ME.cmp {op:CmpOp} {r:R2} {oo:Iw->Iw->Option Iw} (ho:OpR X (JG op) r) (ad:Ad2 X.K r oo) (hm:Jz op b=false) (ha:ME X cl a f) (hb:ME X cl b g):ME X cl (.Compare a [op] [b] pos) (AN oo f g):=PE.imp (zR ho ha hb hm) (FN ad)
theorem ME.ix {r:R2} {oo:Iw->Iw->Option Iw} (hr:IxR X r) (ad:Ad2 X.K r oo) (ha:ME X cl a f) (hb:ME X cl b g) (hs:qa b:=by intro _ _; rfl):ME X cl (.Subscript a b pos) (mOp oo f g):=PE.imp (BJ hr ha hb hs) (EQ ad)
noncomputable def mB (f:MF):MTF:=λ w=>(f w).bind λ r=>match r.1 with | .d x=>(asB x).bind λ b=>some (b,r.2) | _=>none
theorem MT.val (he:ME X cl e f) (hi:∀ whole,isTrue e X.env whole=(do let v <- whole; standAt e.pos; holding [v] (truthy v)):=by intro _; rfl):MT X cl e (mB f):=PT.imp (Bw he hi) λ σ H Q ⟨θ,F,w,c,s',m,v,hf,q⟩=>by
 obtain ⟨⟨d,s1⟩,h1,hf⟩:=ab hf;cases d with
 | r n=>cases hf
 | d x =>
  dsimp only at hf;obtain ⟨b,hb,hf⟩:=ab hf;cases hf;obtain rfl:=mz hb;exact ⟨θ,F,w,_,_,m,v,h1,λ u θ1 F1 H1 p1 q1 m1 r1=>⟨c,(show Rel X.K F1 (.bool c) u from r1).bl,q θ1 F1 H1 p1 q1 m1⟩⟩
noncomputable def maN:MFs:=λ w=>some ([],w.s)
noncomputable def maC (f:MF) (fs:MFs):MFs:=λ w=>(f w).bind λ r=>(fs ⟨w.η,r.2⟩).bind λ rs=>some (r.1::rs.1,rs.2)
theorem bw:MA X cl [] maN:=PA.imp BQ λ σ H Q ⟨θ,F,w,ds,s',m,v,hf,q⟩=>by
 cases hf;exact q [] θ F H (Jj _) (.refl _) m .nil
theorem ao (ha:ME X cl e f) (hr:MA X cl es fs) (hs:II (e::es) X.env=(false,eval e X.env)::II es X.env:=by exact cg rfl):MA X cl (e::es) (maC f fs):=PA.imp (zU ha hr hs) λ σ H Q ⟨θ,F,w,ds,s',m,v,hf,q⟩=>by
 obtain ⟨⟨d,s1⟩,h1,hf⟩:=ab hf;obtain ⟨⟨ds2,s2⟩,h2,hf⟩:=ab hf;cases hf;refine ⟨θ,F,w,d,s1,m,v,h1,λ u θ1 F1 H1 p1 q1 m1 r1=>⟨θ1,F1,⟨w.η,s1⟩,ds2,s2,m1,v.mono p1 q1,h2,λ us θ2 F2 H2 p2 q2 m2 r2=>?_⟩⟩;exact q (u::us) θ2 F2 H2 (p1.trans p2) (q1.trans q2) m2 (.cons (r1.mono p2 q2) r2)
noncomputable def qS (o:MF) (f:Str):MF:=λ w=>(o w).bind λ r=>match r.1 with
 | .r n=>(match r.2[n]? with | some (.obj _ fs)=>(fs.lookup f).bind λ d=>some (d,r.2) | _=>none)
 | _=>none
theorem ME.fld {f:Str} {g:MF} (ho:ME X cl o g) (hb:attributeBase o f X.env (eval o X.env)=eval o X.env:=by rfl):ME X cl (.Attribute o f pos) (qS g f) :=
 PE.imp (yW ho hb) λ σ H Q ⟨θ,F,w,d,s',m,v,hf,q⟩=>by
  obtain ⟨⟨d0,s0⟩,h0,hf⟩:=ab hf;cases d0 with
  | d x=>cases hf
  | r n =>
   dsimp only at hf;split at hf
   ·rename_i k fs hc;obtain ⟨d1,hl,hf⟩:=ab hf;cases hf;refine ⟨θ,F,w,.r n,_,m,v,h0,λ u θ1 F1 H1 p1 q1 m1 r1=>?_⟩;obtain ⟨a,e1,rfl⟩:=r1;obtain ⟨h1,h2,h3,dx,xs,h4,h5⟩:=m1.cel n a _ e1 hc;obtain ⟨u,e5,e6⟩:=(h5.look f).1 _ hl;exact ⟨a,cl k,dx,xs,u,rfl,h4,h2,h3 f (u6 hl),e5,q u θ1 F1 H1 p1 q1 m1 e6⟩
   ·cases hf
end
noncomputable def dQ (i:Nat) (f:Str):En->Option Iw:=λ η=>match η[i]? with | some (.ob fs)=>fs f | _=>none
theorem g8 (i:Nat) {X:Cx} {B:Bd} {x f:Str} {npos pos:Pos} (hN:X.N[i]?=some x:=by rfl) (hv:Vis X.env.scope x:=by first | exact Or.inl rfl | exact Or.inr (Or.inl rfl) | exact Or.inr (Or.inr rfl)) (hd:(x==("__debug__" : Str))=false:=by decide)
  (hcd:(x==("__classdict__" : Str))=false:=by decide) (hb:attributeBase (.Name x npos) f X.env (eval (.Name x npos) X.env)=eval (.Name x npos) X.env:=by rfl):E X B (.Attribute (.Name x npos) f pos) (dQ i f) :=
 PE.imp (yW (qM hN hv hd hcd) hb) λ σ H Q ⟨F,η,d,sr,hd,q⟩=>by
  unfold dQ at hd;split at hd
  ·rename_i fs e;obtain ⟨p,C,dx,xs,e1,e2,e3,e4⟩:=sr.en.obs i fs e;obtain ⟨n,v,h1,h2⟩:=e4 f d hd;exact ⟨_,e1,p,C,dx,xs,v,rfl,e2,e3,n,h1,q v F H (.refl sr.same) h2⟩
  ·cases hd
noncomputable def spM (K:Iv) (cl:Nat->IS) (fn:List D->Sto->Option (D×Sto)):Sp:=λ vs H Q _=>∃ θ F s ds d s',MR K cl θ F H s/\DRs K θ F ds vs/\fn ds s=some (d,s')/\∀ v θ' F' H',θ<+:θ'->Same F F'->MR K cl θ' F' H' s'->DR K θ' F' d v->Q v H'
noncomputable def qw (fn:List D->Sto->Option (D×Sto)) (fs:MFs):MF:=λ w=>(fs w).bind λ r=>fn r.1 r.2
section
variable {X:Cx} {cl:Nat->IS} {e o:Expr} {es:List Expr} {g:MF} {fs:MFs} {pos:Pos}
theorem ME.call {k k':Nat} {fa:IS} {fd:Jx} {ps:List Str} {x:Str} {ppos:Pos} {fn:List D->Sto->Option (D×Sto)} (G:FnOk X.prog X.w X.K X.mg X.base CX0 k fa fd ps (spM X.K cl fn)) (hr:Room k' X.A) (hkk:k<=k') (hm:X.mg x=some (.ref fa)) (hk:JU X.K (.ref fa)=true) (hb:Binds X.K fd ps [])
  (ha:MA X cl (e::es) fs) (hg:Gl X x:=by rfl) (hdb:(x==("__debug__" : Str))=false:=by decide) (he:II (e::es) X.env=(false,eval e X.env)::II es X.env:=by exact cg rfl) (hpl:(backTo pos (II es X.env)).any (·.1)=false:=by exact jE rfl) :
  ME X cl (.Call (.Name x ppos) (e::es) [] pos) (qw fn fs):=PE.imp (wN G (hr.mono hkk) hg hm hk hb .nil uN ha hdb he hpl) λ σ H Q ⟨θ,F,w,d,s',m,v,hf,q⟩=>by
 obtain ⟨⟨ds,s1⟩,h1,hf⟩:=ab hf;refine ⟨θ,F,w,ds,s1,m,v,h1,λ vs θ1 F1 H1 p1 q1 m1 r1=>?_⟩;show spM X.K cl fn (vs++[]) H1 Q E0;rw [JB];exact ⟨θ1,F1,s1,ds,d,s',m1,r1,hf,λ u θ2 F2 H2 p2 q2 m2 r2=>q u θ2 F2 H2 (p1.trans p2) (q1.trans q2) m2 r2⟩
noncomputable def bG (k:Nat) (nm:Str) (fn:List D->Sto->Option (D×Sto)) (o:MF) (fs:MFs):MF:=λ w=>(o w).bind λ r=>match r.1 with
 | .r n=>(match r.2[n]? with
  | some (.obj k' as)=>if k'=k/\as.lookup nm=none then (fs ⟨w.η,r.2⟩).bind λ rs=>fn (.r n::rs.1) rs.2 else none
  | _=>none)
 | _=>none
theorem DK {nm:Str} {k:Nat} {fn:List D->Sto->Option (D×Sto)}:∀ σ H Q,tM X.K cl (bG k nm fn g fs) σ H Q->Bk (cl k) nm (spM X.K cl fn) [] E0 (tM X.K cl g) (tMA X.K cl fs) σ H Q:=λ σ H Q ⟨θ,F,w,d,s',m,v,hf,q⟩=>by
 obtain ⟨⟨d0,s0⟩,h0,hf⟩:=ab hf;cases d0 with
 | d x=>cases hf
 | r n =>
  dsimp only at hf;split at hf
  ·rename_i k' as hc;split at hf
   ·rename_i hk;obtain ⟨⟨ds,s1⟩,h1,hf⟩:=ab hf;obtain ⟨hk1,hk2⟩:=hk;rw [hk1] at hc;refine ⟨θ,F,w,.r n,s0,m,v,h0,λ u θ1 F1 H1 p1 q1 m1 r1=>?_⟩;obtain ⟨a,e1,rfl⟩:=id r1;obtain ⟨c1,c2,c3,dx,xs,c4,c5⟩:=m1.cel n a _ e1 hc;refine ⟨a,dx,xs,rfl,c4,(c5.look nm).2 hk2,θ1,F1,⟨w.η,s0⟩,ds,s1,m1,v.mono p1 q1,h1,λ vs θ2 F2 H2 p2 q2 m2 r2=>?_⟩;show spM X.K cl fn (.ref a::(vs++[])) H2 Q E0;rw [JB];exact ⟨θ2,F2,s1,.r n::ds,d,s',m2,.cons (DR.mono p2 q2 r1) r2,hf,λ u θ3 F3 H3 p3 q3 m3 r3=>q u θ3 F3 H3 (p1.trans (p2.trans p3)) (q1.trans (q2.trans q3)) m3 r3⟩
   ·cases hf
  ·cases hf
theorem cH {pl:Sem Bool} {k k' kc:Nat} {fa:IS} {fd:Jx} {ps:List Str} {nm:Str} {apos:Pos} {fn:List D->Sto->Option (D×Sto)} (ho:ME X cl o g) (c:Cls X.K (cl kc)) (hm:Meth X.K (cl kc) nm fa) (G:FnOk X.prog X.w X.K X.mg X.base CX0 k fa fd ps (spM X.K cl fn)) (hr:Room k' X.A) (hkk:k<=k') (hb:Binds X.K fd ps [])
  (ha:MA X cl (e::es) fs) (hst:II (e::es) X.env=(false,eval e X.env)::II es X.env:=by exact cg rfl) (hpl:(backTo pos (II es X.env)).any (·.1)=false:=by exact jE rfl)
  (ht:eval (.Call (.Attribute o nm apos) (e::es) [] pos) X.env=(do
   let ov <- eval o X.env
   standAt apos.atName
   let (f,first) <- holding [ov] (getMethod ov nm pl)
   callWith pos f first (backTo pos (II (e::es) X.env)) (backToKw pos (keywordEach [] X.env))):=by rfl):ME X cl (.Call (.Attribute o nm apos) (e::es) [] pos) (bG kc nm fn g fs) :=
 PE.imp (Dx (pl:=pl) ho c hm G (hr.mono hkk) hb .nil uN ha hst hpl ht) DK
theorem ME.meth0 {pl:Sem Bool} {k k' kc:Nat} {fa:IS} {fd:Jx} {ps:List Str} {nm:Str} {apos:Pos} {fn:List D->Sto->Option (D×Sto)} (ho:ME X cl o g) (c:Cls X.K (cl kc)) (hm:Meth X.K (cl kc) nm fa) (G:FnOk X.prog X.w X.K X.mg X.base CX0 k fa fd ps (spM X.K cl fn)) (hr:Room k' X.A) (hkk:k<=k') (hb:Binds X.K fd ps [])
  (ht:eval (.Call (.Attribute o nm apos) [] [] pos) X.env=(do
   let ov <- eval o X.env
   standAt apos.atName
   let (f,first) <- holding [ov] (getMethod ov nm pl)
   callWith pos f first (backTo pos (II [] X.env)) (backToKw pos (keywordEach [] X.env))):=by rfl):ME X cl (.Call (.Attribute o nm apos) [] [] pos) (bG kc nm fn g maN) :=
 PE.imp (BG (pl:=pl) ho c hm G (hr.mono hkk) hb .nil uN ht) λ σ H Q h=>by
  obtain ⟨θ,F,w,d,s',m,v,hf,q⟩:=h;obtain ⟨⟨d0,s0⟩,h0,hf⟩:=ab hf;cases d0 with
  | d x=>cases hf
  | r n =>
   dsimp only at hf;split at hf
   ·rename_i k' as hc;split at hf
    ·rename_i hk;obtain ⟨⟨ds,s1⟩,h1,hf⟩:=ab hf;obtain ⟨hk1,hk2⟩:=hk;rw [hk1] at hc;cases h1;refine ⟨θ,F,w,.r n,s0,m,v,h0,λ u θ1 F1 H1 p1 q1 m1 r1=>?_⟩;obtain ⟨a,e1,rfl⟩:=id r1;obtain ⟨c1,c2,c3,dx,xs,c4,c5⟩:=m1.cel n a _ e1 hc;exact ⟨a,dx,xs,rfl,c4,(c5.look nm).2 hk2,θ1,F1,s0,[.r n],d,s',m1,.cons r1 .nil,hf,λ u θ3 F3 H3 p3 q3 m3 r3=>q u θ3 F3 H3 (p1.trans p3) (q1.trans q3) m3 r3⟩
    ·cases hf
   ·cases hf
noncomputable def pB (k:Nat) (fn:List D->Sto->Option (D×Sto)) (fs:MFs):MF:=λ w=>(fs w).bind λ r=>(fn (.r r.2.length::r.1) (r.2++[.obj k []])).bind λ q=>match q.1 with
 | .d .none=>some (.r r.2.length,q.2)
 | _=>none
theorem DM {K:Iv} {θ:List IS} {F H:Hp} {s:Sto} {kc:Nat} (c:Cls K (cl kc)) (m:MR K cl θ F H s) {x dx:IS} (hx:H x=none) (hdx:H dx=none) (hne:dx≠x) :
  MR K cl (θ++[x]) F (upd (upd H dx (.own x)) x (.ins (cl kc) dx [])) (s++[.obj kc []]):=by
 have m1:=m.more (o:=.own x) hdx;have hx1:upd H dx (.own x) x=none:=by rw [am (Ne.symm hne)]; exact hx
 exact m1.new hx1 ⟨m1.sm.free hx1,c,λ f hf=>(by cases hf),dx,[],aw,.nil⟩
theorem z8 {kc:Nat} {fn:List D->Sto->Option (D×Sto)} (c:Cls X.K (cl kc)) {θ:List IS} {F H:Hp} {s s':Sto} {ds:List D} {d:D} {vs:List V} {Q:VK} (m:MR X.K cl θ F H s) (r:DRs X.K θ F ds vs)
  (hf:((fn (.r s.length::ds) (s++[.obj kc []])).bind λ q=>match q.1 with | .d .none=>some (D.r s.length,q.2) | _=>none)=some (d,s'))
  (q:∀ v θ' F' H',θ<+:θ'->Same F F'->MR X.K cl θ' F' H' s'->DR X.K θ' F' d v->Q v H') (x dx:IS) (hx:H x=none) (hdx:H dx=none) (hne:dx≠x) :
  spM X.K cl fn (.ref x::vs) (upd (upd H dx (.own x)) x (.ins (cl kc) dx [])) (λ v H2=>v=.non/\Q (.ref x) H2) E0:=by
 obtain ⟨⟨d1,s1⟩,h1,hf⟩:=ab hf;have pre:θ<+:θ++[x]:=J8 _ _;have hix:(θ++[x])[s.length]?=some x:=by rw [<- m.len,IJ (IF _),Jq]; rfl
 refine ⟨θ++[x],F,s++[.obj kc []],.r s.length::ds,d1,s1,DM c m hx hdx hne,.cons ⟨x,hix,rfl⟩ (r.mono pre (.refl _)),h1,λ v θ2 F2 H2 p2 q2 m2 r2=>?_⟩;dsimp only at hf;split at hf
 ·rename_i hd;cases hf;have r2':Rel X.K F2 .none v:=r2;exact ⟨r2'.non,q _ θ2 F2 H2 (pre.trans p2) q2 m2 ⟨x,jD p2 hix,rfl⟩⟩
 ·cases hf
theorem ME.make {k k' kc:Nat} {fa:IS} {fd:Jx} {ps:List Str} {x:Str} {ppos:Pos} {fn:List D->Sto->Option (D×Sto)} (c:Cls X.K (cl kc)) (M:Mk X.K (cl kc) fa) (G:FnOk X.prog X.w X.K X.mg X.base CX0 k fa fd ps (spM X.K cl fn)) (hr:Room k' X.A) (hkk:k+1<=k') (hm:X.mg x=some (.ref (cl kc))) (hb:Binds X.K fd ps [])
  (ha:MA X cl (e::es) fs) (hg:Gl X x:=by rfl) (hdb:(x==("__debug__" : Str))=false:=by decide) (he:II (e::es) X.env=(false,eval e X.env)::II es X.env:=by exact cg rfl) (hpl:(backTo pos (II es X.env)).any (·.1)=false:=by exact jE rfl) :
  ME X cl (.Call (.Name x ppos) (e::es) [] pos) (pB kc fn fs):=PE.imp (Dy M G (hr.mono hkk) hg hm hb .nil uN ha hdb he hpl) λ σ H Q ⟨θ,F,w,d,s',m,v,hf,q⟩=>by
 obtain ⟨⟨ds,s1⟩,h1,hf⟩:=ab hf;refine ⟨θ,F,w,ds,s1,m,v,h1,λ vs θ1 F1 H1 p1 q1 m1 r1=>λ x dx hx hdx hne=>?_⟩;show spM X.K cl fn (.ref x::(vs++[])) _ _ E0;rw [JB];exact z8 c m1 r1 hf (λ u θ2 F2 H2 p2 q2 m2 r2=>q u θ2 F2 H2 (p1.trans p2) (q1.trans q2) m2 r2) x dx hx hdx hne
theorem ME.make0 {k k' kc:Nat} {fa:IS} {fd:Jx} {ps:List Str} {x:Str} {ppos:Pos} {fn:List D->Sto->Option (D×Sto)} (c:Cls X.K (cl kc)) (M:Mk X.K (cl kc) fa) (G:FnOk X.prog X.w X.K X.mg X.base CX0 k fa fd ps (spM X.K cl fn)) (hr:Room k' X.A) (hkk:k+1<=k') (hm:X.mg x=some (.ref (cl kc))) (hb:Binds X.K fd ps [])
  (hg:Gl X x:=by rfl) (hdb:(x==("__debug__" : Str))=false:=by decide) :
  ME X cl (.Call (.Name x ppos) [] [] pos) (pB kc fn maN):=PE.imp (BH M G (hr.mono hkk) hg hm hb .nil uN hdb) λ σ H Q ⟨θ,F,w,d,s',m,v,hf,q⟩=>by
 obtain ⟨⟨ds,s1⟩,h1,hf⟩:=ab hf;cases h1;exact λ x dx hx hdx hne=>z8 c m .nil hf q x dx hx hdx hne
end
inductive MOut where
 | nx (w:Wd)
 | rt (d:D) (s:Sto)
 | bk (w:Wd)
 | ct (w:Wd)
section
variable (K:Iv) (cl:Nat->IS)
noncomputable def MNx (θ:List IS) (F:Hp) (N:St->Hp->Prop) (w:Wd):Prop:=∀ σ' θ' F' H',θ<+:θ'->Same F F'->MR K cl θ' F' H' w.s->MV K θ' F' σ' w.η->N σ' H'
noncomputable def MOk (θ:List IS) (F:Hp) (Z:Ends):MOut->Prop
 | .nx w=>MNx K cl θ F Z.nx w
 | .rt d s=>∀ v θ' F' H',θ<+:θ'->Same F F'->MR K cl θ' F' H' s->DR K θ' F' d v->Z.rt v H'
 | .bk w=>MNx K cl θ F Z.bk w
 | .ct w=>MNx K cl θ F Z.ct w
noncomputable def tMS (f:Wd->Option MOut):TS:=λ Z σ H=>∃ θ F w o,MR K cl θ F H w.s/\MV K θ F σ w.η/\f w=some o/\MOk K cl θ F Z o
end
noncomputable def MS (X:Cx) (cl:Nat->IS) (st:Stmt) (f:Wd->Option MOut):Prop:=PS X st (tMS X.K cl f)
noncomputable def MSs (X:Cx) (cl:Nat->IS) (st:List Stmt) (f:Wd->Option MOut):Prop:=PSs X st (tMS X.K cl f)
theorem MNx.up {K:Iv} {cl:Nat->IS} {θ θ1:List IS} {F F1:Hp} {N:St->Hp->Prop} {w:Wd} (h:MNx K cl θ F N w) (p:θ<+:θ1) (s:Same F F1):MNx K cl θ1 F1 N w:=λ σ' θ' F' H' p' s'=>h σ' θ' F' H' (p.trans p') (s.trans s')
theorem MOk.up {K:Iv} {cl:Nat->IS} {θ θ1:List IS} {F F1:Hp} {Z:Ends} {o:MOut} (h:MOk K cl θ F Z o) (p:θ<+:θ1) (s:Same F F1):MOk K cl θ1 F1 Z o:=by
 cases o with
 | nx w=>exact MNx.up h p s
 | rt d s2=>exact λ v θ' F' H' p' s'=>h v θ' F' H' (p.trans p') (s.trans s')
 | bk w=>exact MNx.up h p s
 | ct w=>exact MNx.up h p s
noncomputable def mNx:Wd->Option MOut:=λ w=>some (.nx w)
noncomputable def bb (f g:Wd->Option MOut):Wd->Option MOut:=λ w=>(f w).bind λ o=>match o with
 | .nx w'=>g w'
 | o=>some o
noncomputable def kj (f:MF):Wd->Option MOut:=λ w=>(f w).bind λ r=>some (.rt r.1 r.2)
noncomputable def mIf (c:MTF) (f g:Wd->Option MOut):Wd->Option MOut:=λ w=>(c w).bind λ r=>if r.1=true then f ⟨w.η,r.2⟩ else g ⟨w.η,r.2⟩
noncomputable def dP (i:Nat) (f:MF):Wd->Option MOut:=λ w=>(f w).bind λ r=>some (.nx ⟨w.η.set i (some r.1),r.2⟩)
noncomputable def km (f:MF):Wd->Option MOut:=λ w=>(f w).bind λ r=>some (.nx ⟨w.η,r.2⟩)
noncomputable def sq (f:Str) (v:D):List (Str×D)->List (Str×D)
 | []=>[(f,v)]
 | (g,x)::r=>if g=f then (g,v)::r else (g,x)::sq f v r
noncomputable def hG (k:Nat) (nm:Str) (o e:MF):Wd->Option MOut:=λ w=>(e w).bind λ r=>(o ⟨w.η,r.2⟩).bind λ q=>match q.1 with
 | .r n=>(match q.2[n]? with
  | some (.obj k' fs)=>if k'=k/\fs.length < 999 then some (.nx ⟨w.η,q.2.set n (.obj k (sq nm r.1 fs))⟩) else none
  | _=>none)
 | _=>none
section
variable {X:Cx} {cl:Nat->IS} {st:Stmt} {sts sts':List Stmt} {u v:Wd->Option MOut} {a b c e o:Expr} {f g:MF} {p:MTF} {pos pos':Pos}
theorem gb:MSs X cl [] mNx:=PSs.imp zP λ Z σ H ⟨θ,F,w,o,m,v,hf,q⟩=>by
 cases hf;exact q σ θ F H (Jj _) (.refl _) m v
theorem aA (h:MS X cl st u):MSs X cl [st] u:=zO h
theorem ag (h:MS X cl st u) (k:MSs X cl sts v):MSs X cl (st::sts) (bb u v):=PSs.imp (xP h k) λ Z σ H ⟨θ,F,w,o,m,v,hf,q⟩=>by
 obtain ⟨o1,h1,hf⟩:=ab hf;refine ⟨θ,F,w,o1,m,v,h1,?_⟩;cases o1 with
 | nx w'=>exact λ σ' θ' F' H' p s m' v'=>⟨θ',F',w',o,m',v',hf,q.up p s⟩
 | rt d s=>cases hf; exact q
 | bk w'=>cases hf; exact q
 | ct w'=>cases hf; exact q
theorem MS.never:MS X cl st (λ _=>none):=PS.imp xQ λ Z σ H ⟨θ,F,w,o,m,v,hf,q⟩=>by cases hf
theorem fe (he:ME X cl e f):MS X cl (.Return (some e) pos) (kj f):=PS.imp (yS he) λ Z σ H ⟨θ,F,w,o,m,v,hf,q⟩=>by
 obtain ⟨⟨d,s⟩,h1,hf⟩:=ab hf;cases hf;exact ⟨θ,F,w,d,s,m,v,h1,q⟩
theorem kA (he:ME X cl e f) (hs:swapsWith e none pos.line X.env=pure false:=by rfl):MS X cl (.Expr e pos) (km f):=PS.imp (wK he hs) λ Z σ H ⟨θ,F,w,o,m,v,hf,q⟩=>by
 obtain ⟨⟨d,s⟩,h1,hf⟩:=ab hf;cases hf;exact ⟨θ,F,w,d,s,m,v,h1,λ u θ' F' H' p' s' m' _=>q σ θ' F' H' p' s' m' (v.mono p' s')⟩
theorem gx (hc:MT X cl c p) (ha:MSs X cl sts u) (hb:MSs X cl sts' v):MS X cl (.If c sts sts' pos) (mIf p u v):=PS.imp (EL hc ha hb) λ Z σ H ⟨θ,F,w,o,m,v,hf,q⟩=>by
 obtain ⟨⟨b,s1⟩,h1,hf⟩:=ab hf;refine ⟨θ,F,w,b,s1,m,v,h1,λ θ' F' H' p' s' m'=>?_⟩;cases b with
 | false =>
  rw [if_neg IT] at hf ⊢;exact ⟨θ',F',⟨w.η,s1⟩,o,m',v.mono p' s',hf,q.up p' s'⟩
 | true =>
  rw [if_pos rfl] at hf ⊢;exact ⟨θ',F',⟨w.η,s1⟩,o,m',v.mono p' s',hf,q.up p' s'⟩
theorem bM (i:Nat) {x:Str} (hN:X.N.Nodup) (he:ME X cl e f) (hi:X.N[i]?=some x:=by rfl) (hx:Loc X.env.scope x:=by first | exact Or.inl rfl | exact Or.inr rfl) (hs:swapsWith e (some (.Name x pos')) pos.line X.env=pure false:=by rfl)
  (hf:X.fn x=true\/X.env.scope.names.lookup x=some .local:=by first | exact .inl rfl | exact .inr rfl):MS X cl (.Assign [.Name x pos'] e pos) (dP i f):=PS.imp (yR hN hi hx he hs hf) λ Z σ H ⟨θ,F,w,o,m,v,hf,q⟩=>by
 obtain ⟨⟨d,s⟩,h1,hf⟩:=ab hf;cases hf;exact ⟨θ,F,w,d,s,m,v,h1,λ u θ' F' H' p' s' m' r'=>q _ θ' F' H' p' s' m' ((v.mono p' s').set i r')⟩
theorem DRf.put {K:Iv} {θ:List IS} {F:Hp} {fs:List (Str×D)} {xs:List (Str×V)} (h:DRf K θ F fs xs) (f:Str) {d:D} {v:V} (r:DR K θ F d v):DRf K θ F (sq f d fs) (n6 f v xs):=by
 induction h with
 | nil=>exact .cons ⟨rfl,r⟩ .nil
 | @cons a b as bs q t ih =>
  obtain ⟨ka,da⟩:=a;obtain ⟨kb,vb⟩:=b;have e:ka=kb:=q.1;subst e;unfold sq n6;by_cases hk:ka=f
  ·rw [if_pos hk,if_pos hk]; exact .cons ⟨rfl,r⟩ t
  ·rw [if_neg hk,if_neg hk]; exact .cons q ih
theorem so {f:Str} {d:D}:∀ {fs:List (Str×D)} {g:Str},g∈(sq f d fs).map (·.1)->g=f\/g∈fs.map (·.1)
 | [],g,h=>.inl (by simpa [sq] using h)
 | (k,x)::r,g,h=>by
  unfold sq at h;by_cases hk:k=f
  ·rw [if_pos hk] at h;rcases IY.mp h with z | z
   ·exact .inr (by rw [z]; exact IW)
   ·exact .inr (IQ _ z)
  ·rw [if_neg hk] at h;rcases IY.mp h with z | z
   ·exact .inr (by rw [z]; exact IW)
   ·rcases so z with y | y
    ·exact .inl y
    ·exact .inr (IQ _ y)
theorem c0 {k:Nat} {nm:Str} (ho:ME X cl o g) (he:ME X cl e f) (hn:NoAttr X.K (cl k) nm) (hs:swapsWith e (some (.Attribute o nm pos')) pos.line X.env=pure false:=by rfl):MS X cl (.Assign [.Attribute o nm pos'] e pos) (hG k nm g f) :=
 PS.imp (Fy ho he hs) λ Z σ H ⟨θ,F,w,o,m,v,hf,q⟩=>by
  obtain ⟨⟨d,s1⟩,h1,hf⟩:=ab hf;obtain ⟨⟨d2,s2⟩,h2,hf⟩:=ab hf;cases d2 with
  | d x=>cases hf
  | r n =>
   dsimp only at hf h2;split at hf
   ·rename_i k' fs hc;split at hf
    ·rename_i hk;cases hf;obtain ⟨hk1,hk2⟩:=hk;rw [hk1] at hc;refine ⟨θ,F,w,d,s1,m,v,h1,λ y θ1 F1 H1 p1 q1 m1 r1=>⟨θ1,F1,⟨w.η,s1⟩,.r n,s2,m1,v.mono p1 q1,h2,λ x θ2 F2 H2 p2 q2 m2 r2=>?_⟩⟩;obtain ⟨a,e1,rfl⟩:=r2;obtain ⟨c1,c2,c3,dx,xs,c4,c5⟩:=m2.cel n a _ e1 hc;have hl:xs.length < 1000:=by
      have:=Paired.length c5
      omega
     refine ⟨a,cl k,dx,xs,rfl,c4,c2,hn,hl,q _ θ2 F2 _ (p1.trans p2) (q1.trans q2) (m2.put e1 hc rfl ⟨c1,c2,λ f hf=>?_,dx,_,aw,c5.put nm (r1.mono p2 q2)⟩) ((v.mono p1 q1).mono p2 q2)⟩;rcases so hf with z | z
     ·rw [z]; exact hn
     ·exact c3 f z
    ·cases hf
   ·cases hf
end
noncomputable def cZ (n m:Nat) (g:Wd->Option MOut):List D->Sto->Option (D×Sto):=λ ds s=>if ds.length=n then (g ⟨ds.map some++JK (m - n) none,s⟩).bind λ o=>match o with
 | .rt d s'=>some (d,s')
 | .nx w=>some (.d .none,w.s)
 | _=>none else none
section
variable {P:Jg} {w:World} {K:Iv} {mg:Str->Option IE} {base:Heap} {cl:Nat->IS}
theorem MV.start {θ:List IS} {F:Hp} {N:List Str} {ds:List D} {vs:List V} (r:DRs K θ F ds vs):MV K θ F (L2.start N vs) (ds.map some++JK (N.length - ds.length) none) where
 len:=by unfold L2.start; rw [IA,IA,Iy,Iy,J1,J1,Paired.length r]
 val:=λ i d e=>by
  unfold L2.start;by_cases hi:i < ds.length
  ·rw [IC (by rw [Iy]; exact hi),IP] at e;rw [IC (by rw [Iy,<- Paired.length r]; exact hi),IP];cases q:ds[i]? with
   | none=>rw [q] at e; cases e
   | some d' =>
    rw [q] at e
    have:d'=d:=Option.some.inj (Option.some.inj e)
    subst this;obtain ⟨x,e1,e2⟩:=r.get q;exact ⟨x,by rw [e1]; rfl,e2⟩
  ·rw [IJ (by rw [Iy]; omega),JV] at e;split at e <;> cases e
theorem fnM {x qual:Str} {st:Stmt} {f:IS} {fd:Jx} {N ps:List Str} {k:Nat} {g:Wd->Option MOut} (Fn:Fun K x qual st f fd) (Sc:aI N ps (af st))
  (hb:∀ (cdv:IE) (A:JH) (outer:List Env) (s:IG) (H:Hp) (E:XK),Room k (A.deeper (envOfC qual (af st) s.heap.objs.size f cdv)) ->
   MSs (yw CX0 P w K mg base N qual (af st) f cdv A outer s H E).nox cl (ot st) g) :
  FnOk P w K mg base CX0 (k+1) f fd ps (spM K cl (cZ ps.length N.length g)):=by
 refine Fn.ok Sc (λ vs H Q E h=>?_) (λ cdv A outer s H vs Q E hr h=>?_)
 ·obtain ⟨θ,F,s,ds,d,s',_,r,e,_⟩:=h;unfold cZ at e;split at e
  ·rename_i hl;rw [<- Paired.length r]; exact hl
  ·cases e
 ·obtain ⟨θ,F,s0,ds,d,s',m,r,e,q⟩:=h;refine ⟨_,hb cdv A outer s H E hr,?_⟩;unfold cZ at e;split at e
  ·rename_i hl;obtain ⟨o,h1,e⟩:=ab e;have z:=MV.start (K:=K) (N:=N) r;rw [hl] at z;refine ⟨θ,F,⟨_,s0⟩,o,m,z,h1,?_⟩;cases o with
   | rt d' s2 =>
    cases e;exact q
   | nx w' =>
    cases e;exact λ σ' θ' F' H' p' s' m' _=>q .non θ' F' H' p' s' m' (show Rel K F' .none .non from p6)
   | bk w'=>cases e
   | ct w'=>cases e
  ·cases e
theorem Hk {f:IS} {fd:Jx} {ps:List Str} {k:Nat}:FnOk P w K mg base CX0 k f fd ps (spM K cl (λ _ _=>none)) :=
 ⟨λ vs H Q E h=>(by obtain ⟨_,_,_,_,_,_,_,_,e,_⟩:=h; cases e),λ A outer s H args us vs Q E _ _ _ _ h=>(by obtain ⟨_,_,_,_,_,_,_,_,e,_⟩:=h; cases e)⟩
end
noncomputable def tMI (K:Iv) (cl:Nat->IS) (f:Wd->Option (List Iw×Sto)):TI:=λ σ H R=>∃ θ F w ds s',MR K cl θ F H w.s/\MV K θ F σ w.η/\f w=some (ds,s')/\∀ J θ' F' H',θ<+:θ'->Same F F'->MR K cl θ' F' H' s'->ItP K J F' ds->R J H'
noncomputable def MI (X:Cx) (cl:Nat->IS) (tg iter:Expr) (f:Wd->Option (List Iw×Sto)):Prop:=PI X tg iter (tMI X.K cl f)
noncomputable def iPu (f:En->Option (List Iw)):Wd->Option (List Iw×Sto):=λ w=>(f (vw w)).bind λ ds=>some (ds,w.s)
noncomputable def iM (f:MF):Wd->Option (List Iw×Sto):=λ w=>(f w).bind λ r=>match r.1 with | .d (.list ds)=>some (ds,r.2) | _=>none
noncomputable def back:List Nat->MEn->En->Option MEn
 | [],η,_=>some η
 | k::ks,η,ζ=>match ζ[k]? with | some (.val x)=>back ks (η.set k (some (.d x))) ζ | _=>none
noncomputable def mTg (ks:List Nat) (t:En->Iw->Option En) (w:Wd) (d:Iw):Option Wd:=(t (vw w) d).bind λ ζ=>(back ks w.η ζ).bind λ η=>some ⟨η,w.s⟩
noncomputable def mGo (ks:List Nat) (t:En->Iw->Option En) (body:Wd->Option MOut):List Iw->Wd->Option MOut
 | [],w=>some (.nx w)
 | d::ds,w=>(mTg ks t w d).bind λ w1=>(body w1).bind λ o=>match o with
  | .nx w2=>mGo ks t body ds w2
  | .ct w2=>mGo ks t body ds w2
  | .bk w2=>some (.nx w2)
  | .rt d s=>some (.rt d s)
noncomputable def oV (ks:List Nat) (it:Wd->Option (List Iw×Sto)) (t:En->Iw->Option En) (body:Wd->Option MOut):Wd->Option MOut:=λ w=>(it w).bind λ r=>mGo ks t body r.1 ⟨w.η,r.2⟩
section
variable {X:Cx} {cl:Nat->IS} {tg iter e:Expr} {f:MF} {fi:En->Option (List Iw)} {pos:Pos}
theorem MI.pu (h:∀ B,I X B tg iter fi):MI X cl tg iter (iPu fi):=λ pins s σ H R I ⟨θ,F,w,ds,s',m,v,hf,q⟩=>by
 obtain ⟨x,hx,hf⟩:=ab hf;cases hf;exact h ⟨F,H⟩ pins s σ H R I ⟨F,vw w,_,m.vw v,hx,λ J F' H' g ip=>q J θ F' H' (Jj _) g.ff (m.grow g) ip⟩
theorem MI.list (h:ME X cl e f):MI X cl tg e (iM f):=PI.imp (wM h) λ σ H R ⟨θ,F,w,ds,s',m,v,hf,q⟩=>by
 obtain ⟨⟨d,s1⟩,h1,hf⟩:=ab hf;dsimp only at hf;split at hf
 ·rename_i ys hd;cases hf;refine ⟨θ,F,w,_,_,m,v,h1,λ u θ' F' H' p' s' m' r'=>?_⟩;have r2:Rel X.K F' (.list ds) u:=r';obtain ⟨a,xs,rfl,hq,rs⟩:=r2.lst;exact ⟨a,rfl,⟨xs,m'.sm.seq hq⟩,q _ θ' F' H' p' s' m' (yh hq rs)⟩
 ·cases hf
theorem Am {K:Iv} {θ:List IS} {B:Bd} {F H:Hp} {σ':St} {ζ:En} (sr:SR K B F H σ' ζ):∀ (ks:List Nat) {η η':MEn},back ks η ζ=some η'->η.length=σ'.length ->
  (∀ (i:Nat) d,η[i]?=some (some d)->i∈ks\/∃ v,σ'[i]?=some (some v)/\DR K θ F d v)->MV K θ F σ' η'
 | [],η,η',h,hl,hv=>by
  cases h;exact ⟨hl,λ i d e=>(hv i d e).elim (λ z=>(by cases z)) id⟩
 | k::ks,η,η',h,hl,hv=>by
  unfold back at h;split at h
  ·rename_i x hx;refine Am sr ks h (by rw [IZ]; exact hl) λ i d e=>?_;by_cases hk:k=i
   ·subst hk;by_cases hlt:k < η.length
    ·rw [IH hlt] at e;have e':D.d x=d:=Option.some.inj (Option.some.inj e);subst e';exact .inr (sr.en.val k x hx)
    ·rw [Ji (by rw [IZ]; omega)] at e; cases e
   ·rw [Iz hk] at e;rcases hv i d e with z | z
    ·rcases IY.mp z with y | y
     ·exact absurd y.symm hk
     ·exact .inl y
    ·exact .inr z
  ·cases h
theorem EH {K:Iv} {cl:Nat->IS} {ks:List Nat} {gt:TG} {t:En->Iw->Option En} (ht:TgP K ks gt t) {θ:List IS} {F H:Hp} {σ:St} {w w1:Wd} {d:Iw} {x:V} (m:MR K cl θ F H w.s) (v:MV K θ F σ w.η) (rx:Rel K F d x) (h:mTg ks t w d=some w1) {Q:St->Hp->Prop}
  (q:∀ σ' F' H',Same F F'->MR K cl θ F' H' w1.s->MV K θ F' σ' w1.η->Q σ' H'):gt x σ H Q:=by
 obtain ⟨ζ,h1,h⟩:=ab h;obtain ⟨η,h2,h⟩:=ab h;cases h;refine ht ⟨F,H⟩ F H σ (vw w) d x ζ (m.vw v) rx h1 Q λ σ' F' H' sr g hl hn=>q σ' F' H' g.ff (m.grow g) (Am sr ks h2 (by rw [v.len,hl]) λ i d' e=>?_);by_cases hi:i∈ks
 ·exact .inl hi
 ·obtain ⟨u,e1,e2⟩:=v.val i d' e;exact .inr ⟨u,by rw [hn i hi]; exact e1,e2.mono (Jj _) g.ff⟩
theorem MS.for {body:List Stmt} {gt:TG} {ks:List Nat} {t:En->Iw->Option En} {fi:Wd->Option (List Iw×Sto)} {u:Wd->Option MOut} (hp:PassesOwn (Jt X.prog X.w) X.A X.env X.xe) (hc:X.calm=true) (hi:MI X cl tg iter fi) (hg:PG X tg gt) (ht:TgP X.K ks gt t) (hb:MSs X cl body u)
  (hs:∀ x,foldedSetIterable iter X.env x=pure x:=by intro _; rfl):MS X cl (.For tg iter body [] pos) (oV ks fi t u):=PS.imp (yT hp hc hi hg hb hs) λ Z σ H ⟨θ,F,w,o,m,v,hf,q⟩=>by
 obtain ⟨⟨ds,s1⟩,h1,hd⟩:=ab hf;refine ⟨θ,F,w,ds,s1,m,v,h1,λ J θ1 F1 H1 p1 q1 m1 ip=>?_⟩;refine ⟨λ i n σ H=>n=ds.length - i/\i<=ds.length/\∃ θc Fc wc,θ1<+:θc/\Same F1 Fc/\MR X.K cl θc Fc H wc.s/\MV X.K θc Fc σ wc.η/\mGo ks t u (ds.drop i) wc=some o,⟨_,rfl,Kf _,θ1,F1,⟨w.η,s1⟩,Jj _,.refl _,m1,v.mono p1 q1,by simpa using hd⟩,?_⟩
 rintro i n σc Hc ⟨rfl,hi,θc,Fc,wc,pc,sc,mc,vc,hgo⟩
 obtain ⟨ip1,ip2⟩:=ip Fc Hc i sc mc.sm;by_cases hlt:i < ds.length
 ·have e:ds[i]?=some ds[i]:=Jb hlt;obtain ⟨go,yl⟩:=ip1 _ e;rw [Kk hlt] at hgo;unfold mGo at hgo;obtain ⟨w1,e1,hgo⟩:=ab hgo;obtain ⟨o1,e2,hgo⟩:=ab hgo;have cont:∀ (w2:Wd),mGo ks t u (ds.drop (i+1)) w2=some o->∀ σ' θ' F' H',θ1<+:θ'->Same F1 F'->MR X.K cl θ' F' H' w2.s->MV X.K θ' F' σ' w2.η ->
    ∃ n',n' < ds.length - i/\(λ i n σ H=>n=ds.length - i/\i<=ds.length/\∃ θc Fc wc,θ1<+:θc/\Same F1 Fc/\MR X.K cl θc Fc H wc.s/\MV X.K θc Fc σ wc.η/\mGo ks t u (ds.drop i) wc=some o) (i+1) n' σ' H':=λ w2 h2 σ' θ' F' H' p s m v =>
   ⟨ds.length - (i+1),by omega,rfl,hlt,θ',F',w2,p,s,m,v,h2⟩
  refine .inr ⟨go,λ σ' H'=>∃ n',n' < ds.length - i/\(λ i n σ H=>n=ds.length - i/\i<=ds.length/\∃ θc Fc wc,θ1<+:θc/\Same F1 Fc/\MR X.K cl θc Fc H wc.s/\MV X.K θc Fc σ wc.η/\mGo ks t u (ds.drop i) wc=some o) (i+1) n' σ' H',λ σ' H' n=>n,λ x H' y=>?_⟩;obtain ⟨F2,g2,rx⟩:=yl x H' y;refine EH ht (mc.grow g2) (vc.mono (Jj _) g2.ff) rx e1 λ σ3 F3 H3 s3 m3 v3=>?_;refine ⟨θc,F3,w1,o1,m3,v3,e2,?_⟩;have s4:Same F1 F3:=sc.trans (g2.ff.trans s3);cases o1 with
  | nx w2=>exact λ σ' θ' F' H' p' s' m' v'=>cont w2 hgo σ' θ' F' H' (pc.trans p') (s4.trans s') m' v'
  | ct w2=>exact λ σ' θ' F' H' p' s' m' v'=>cont w2 hgo σ' θ' F' H' (pc.trans p') (s4.trans s') m' v'
  | bk w2 =>
   cases hgo;exact λ σ' θ' F' H' p' s' m' v'=>q σ' θ' F' H' (p1.trans (pc.trans p')) (q1.trans (s4.trans s')) m' v'
  | rt d s2 =>
   cases hgo;exact λ u θ' F' H' p' s' m' r'=>q u θ' F' H' (p1.trans (pc.trans p')) (q1.trans (s4.trans s')) m' r'
 ·have ei:i=ds.length:=by omega
  subst ei;rw [List.drop_length] at hgo;cases hgo;exact .inl ⟨ip2 rfl,q σc θc Fc Hc (p1.trans pc) (q1.trans sc) mc vc⟩
end
section
variable {X:Cx} {cl:Nat->IS} {tg iter elt:Expr} {ifs:List Expr} {scope:Scope} {N':List Str} {mp:List (Option Nat)} {ks:List Nat} {gt:TG} {t:En->Iw->Option En} {fi:En->Option (List Iw)} {p:En->Option Bool} {f:En->Option Iw} {pos:Pos}
noncomputable def mC (fs:En->Option (List Iw)):MF:=λ w=>(fs (vw w)).bind λ xs=>some (.d (.list xs),w.s)
theorem MS.setC (i:Nat) {y:Str} {py spos:Pos} (hc:X.calm=true) (hN:X.N.Nodup) (ck:CompSc X scope N' mp) (ht:TgP X.K ks gt t) (hks:∀ k∈ks,mp[k]?=some none) (hi:∀ B,I X B tg iter fi)
  (hb:∀ B s H fp,PG (cI X scope N' s H fp) tg gt/\Ts (cI X scope N' s H fp) B ifs p/\E (cI X scope N' s H fp) B elt f)
  (hiy:X.N[i]?=some y:=by rfl) (hy:X.env.scope.names.lookup y=some .local:=by rfl) (hsw:swapsWith (.ListComp elt [⟨tg,iter,ifs,0⟩] scope pos) (some (.Name y py)) spos.line X.env=pure true:=by rfl)
  (hs:∀ x,foldedSetIterable iter X.env x=pure x:=by intro _; rfl):MS X cl (.Assign [.Name y py] (.ListComp elt [⟨tg,iter,ifs,0⟩] scope pos) spos) (dP i (mC (bj mp fi t p f))):=λ pins s σ H Z I ⟨θ,F,w,o,m,v,hf,q⟩=>by
 obtain ⟨⟨d,s1⟩,h1,hf⟩:=ab hf;cases hf;obtain ⟨xs,hx,h1⟩:=ab h1;cases h1;refine uK (g:=gt) (tt:=tT X.K ⟨F,H⟩ p) (te:=tE X.K ⟨F,H⟩ f) hc hN hiy hy ck (hi ⟨F,H⟩) (hb ⟨F,H⟩) hsw hs pins s σ H Z I ?_;refine uu ht hks σ H _ ⟨F,vw w,xs,m.vw v,hx,λ p zs F' H' g hp fp hp' rs=>?_⟩;obtain ⟨g2,r2⟩:=Ab m.sm g hp fp hp' rs;exact q _ θ _ H' (Jj _) g2.ff (m.grow g2) ((v.mono (Jj _) g2.ff).set i r2)
end
noncomputable def GA:Iw->Option Bool
 | .none=>some false
 | .bool b=>some b
 | .int i=>some (i != 0)
 | .list ds=>some (!ds.isEmpty)
 | .tuple ds=>some (!ds.isEmpty)
 | _=>none
noncomputable def bTr (f:En->Option Iw):En->Option Bool:=λ η=>(f η).bind GA
theorem uJ {K:Iv} {F:Hp} {ds:List Iw} {xs:List V} (h:RelL K F ds xs):(!ds.isEmpty)=!xs.isEmpty:=by
 cases ds with
 | nil=>rw [h.nil_of]; rfl
 | cons d ds =>
  obtain ⟨x,r,rfl,_,_⟩:=h.cons_of;rfl
theorem Fi {K:Iv} {F H:Hp} {d:Iw} {b:Bool} {v:V} (h:GA d=some b) (sm:Same F H) (r:Rel K F d v):Gq K v H b:=by
 cases d with
 | none=>cases h; rw [r.non]; rfl
 | bool k=>cases h; rw [r.bl]; rfl
 | int i=>cases h; rw [r.int]; rfl
 | str x=>cases h
 | dict es=>cases h
 | list ds =>
  cases h;obtain ⟨a,xs,rfl,hq,rs⟩:=r.lst;exact .inl ⟨xs,sm.seq hq,uJ rs⟩
 | tuple ds =>
  cases h;obtain ⟨a,xs,rfl,hq,rs⟩:=r.tup;exact .inr (.inl ⟨xs,dg sm hq,uJ rs⟩)
section
variable {X:Cx} {B:Bd} {e:Expr} {f:En->Option Iw}
theorem T.tru (he:E X B e f) (hi:∀ whole,isTrue e X.env whole=(do let v <- whole; standAt e.pos; holding [v] (truthy v)):=by intro _; rfl):T X B e (bTr f):=PT.imp (Bx he hi) λ σ H Q ⟨F,η,b,sr,hd,q⟩=>by
 obtain ⟨x,hx,hd⟩:=ab hd;exact ⟨F,η,x,sr,hx,λ v F1 H1 g1 rv=>⟨b,Fi hd g1.fh rv,q F1 H1 g1⟩⟩
end
noncomputable def pDs (s:Sto):List D->Option (List Iw)
 | []=>some []
 | d::r=>(pD s d).bind λ x=>(pDs s r).bind λ xs=>some (x::xs)
noncomputable def mCB (o:List Iw->Option Iw) (fs:MFs):MF:=λ w=>(fs w).bind λ r=>(pDs r.2 r.1).bind λ xs=>(o xs).bind λ x=>some (.d x,r.2)
section
variable {X:Cx} {cl:Nat->IS} {e:Expr} {es:List Expr} {fs:MFs} {pos pp:Pos}
theorem zX {K:Iv} {θ:List IS} {F H:Hp} {s:Sto} (m:MR K cl θ F H s) {ds:List D} {vs:List V} (h:DRs K θ F ds vs):∀ {xs:List Iw},pDs s ds=some xs->RelL K F xs vs:=by
 induction h with
 | nil=>intro xs e; cases e; exact .nil
 | @cons a b as bs r t ih =>
  intro xs e;unfold pDs at e;obtain ⟨x,h1,e⟩:=ab e;obtain ⟨zs,h2,e⟩:=ab e;cases e;exact .cons (uD m _ _ _ h1 r) (ih h2)
end
section
variable {X:Cx} {cl:Nat->IS} {a b:Expr} {f g:MF} {pos:Pos}
theorem ME.eq {k:Nat} (hr:Room k X.A) (ha:ME X cl a f) (hb:ME X cl b g):ME X cl (.Compare a [.Eq] [b] pos) (AN pEq f g):=ME.cmp (y0 hr.units) CL (nomark b) ha hb
theorem ME.add (ha:ME X cl a f) (hb:ME X cl b g):ME X cl (.BinOp a .Add b pos) (mOp aW f g):=ME.op zZ CN ha hb
theorem ME.at (ha:ME X cl a f) (hb:ME X cl b g) (hs:qa b:=by intro _ _; rfl):ME X cl (.Subscript a b pos) (mOp pIx f g):=ME.ix Cg E4 ha hb hs
end
noncomputable def spL (K:Iv):Sp:=λ vs H Q _=>∃ (a:IS) (ns:List Int),vs=[.ref a]/\SqL K H a (ns.map V.int)/\ns.length<=63/\∀ H',Q (.bl true) H'
theorem Dd {K:Iv} {cl:Nat->IS} {fn:List D->Sto->Option (D×Sto)} (main:∀ ns:List Int,ns.length<=63->∃ s',fn [.d (.list (ns.map Jm))] []=some (.d (.bool true),s')):∀ vs H Q E,spL K vs H Q E->spM K cl fn vs H Q E:=λ vs H Q E ⟨a,ns,e,hS,hl,q⟩=>by
 subst e;obtain ⟨s',hm⟩:=main ns hl;exact ⟨[],H,[],[.d (.list (ns.map Jm))],.d (.bool true),s',⟨.refl _,rfl,by simp,λ n a c h=>by simp at h⟩,.cons (show Rel K H (.list (ns.map Jm)) (.ref a) from kB hS (RelL.ints ns)) .nil,hm,λ v θ' F' H' _ _ _ r=>by rw [(show Rel K F' (.bool true) v from r).bl]; exact q H'⟩
section
variable {X:Cx} {cl:Nat->IS} {e:Expr} {es:List Expr} {fs:MFs} {pos:Pos}
theorem ME.callP {k k':Nat} {fa:IS} {fd:Jx} {ps:List Str} {x:Str} {ppos:Pos} {fn:List Iw->Option Iw} (G:FnOk X.prog X.w X.K X.mg X.base CX0 k fa fd ps (spP X.K fn)) (hr:Room k' X.A) (hkk:k<=k') (hm:X.mg x=some (.ref fa)) (hk:JU X.K (.ref fa)=true) (hb:Binds X.K fd ps [])
  (ha:MA X cl (e::es) fs) (hg:Gl X x:=by rfl) (hdb:(x==("__debug__" : Str))=false:=by decide) (he:II (e::es) X.env=(false,eval e X.env)::II es X.env:=by exact cg rfl) (hpl:(backTo pos (II es X.env)).any (·.1)=false:=by exact jE rfl) :
  ME X cl (.Call (.Name x ppos) (e::es) [] pos) (mCB fn fs):=PE.imp (wN G (hr.mono hkk) hg hm hk hb .nil uN ha hdb he hpl) λ σ H Q ⟨θ,F,w,d,s',m,v,hf,q⟩=>by
 obtain ⟨⟨ds,s1⟩,h1,hf⟩:=ab hf;obtain ⟨xs,h2,hf⟩:=ab hf;obtain ⟨x,h3,hf⟩:=ab hf;cases hf;refine ⟨θ,F,w,ds,_,m,v,h1,λ vs θ1 F1 H1 p1 q1 m1 r1=>?_⟩;show spP X.K fn (vs++[]) H1 Q E0;rw [JB];exact ⟨F1,xs,x,m1.sm,zX m1 r1 h2,h3,λ u F2 H2 g2 r2=>q u θ1 F2 H2 p1 (q1.trans g2.ff) (m1.grow g2) r2⟩
end
section
variable {w w1:Wd} {s s1 s2:Sto} {d d1 d2:D} {ds:List D} {n i k:Nat} {nm:Str}
theorem ah {f g:Wd->Option MOut} {r:Option MOut} (h1:f w=some (.nx w1)) (h2:g w1=r):bb f g w=r:=by
 unfold bb;rw [h1]; exact h2
theorem rN {f g:Wd->Option MOut} (h1:f w=some (.rt d s)):bb f g w=some (.rt d s):=by
 unfold bb;rw [h1]; rfl
theorem aS {f:MF} (h:f w=some (d,s)):dP i f w=some (.nx ⟨w.η.set i (some d),s⟩):=by
 unfold dP;rw [h]; rfl
theorem dC {f:MF} (h:f w=some (d,s)):kj f w=some (.rt d s):=by
 unfold kj;rw [h]; rfl
theorem lK {f:MF} (h:f w=some (d,s)):km f w=some (.nx ⟨w.η,s⟩):=by
 unfold km;rw [h]; rfl
theorem ar {f:En->Option Iw} {x:Iw} (h:f (vw w)=some x):mP f w=some (.d x,w.s):=by
 unfold mP;rw [h]; rfl
theorem G2 {f:En->Option (List Iw)} {x:List Iw} (h:f (vw w)=some x):mC f w=some (.d (.list x),w.s):=by
 unfold mC;rw [h]; rfl
theorem dH {f:En->Option Bool} {b:Bool} (h:f (vw w)=some b):tPv f w=some (b,w.s):=by
 unfold tPv;rw [h]; rfl
theorem qR {c:MTF} {f g:Wd->Option MOut} {r:Option MOut} (h:c w=some (true,s)) (h2:f ⟨w.η,s⟩=r):mIf c f g w=r:=by
 unfold mIf;rw [h]; exact h2
theorem DU {c:MTF} {f g:Wd->Option MOut} {r:Option MOut} (h:c w=some (false,s)) (h2:g ⟨w.η,s⟩=r):mIf c f g w=r:=by
 unfold mIf;rw [h]; exact h2
theorem rO {c:MTF} {f:Wd->Option MOut} (h:c w=some (false,s)):mIf c f mNx w=some (.nx ⟨w.η,s⟩):=DU h rfl
theorem bD:maN w=some ([],w.s):=rfl
theorem aD {f:MF} {fs:MFs} (h1:f w=some (d,s1)) (h2:fs ⟨w.η,s1⟩=some (ds,s2)):maC f fs w=some (d::ds,s2):=by
 unfold maC;rw [h1,Ix,h2]; rfl
theorem b8 {fn:List D->Sto->Option (D×Sto)} {o:MF} {fs:MFs} {as:List (Str×D)} (h0:o w=some (.r n,s)) (hc:s[n]?=some (.obj k as)) (hl:as.lookup nm=none) (h1:fs ⟨w.η,s⟩=some (ds,s1)) (h2:fn (.r n::ds) s1=some (d,s2)):bG k nm fn o fs w=some (d,s2):=by
 unfold bG;rw [h0,Ix];dsimp only;rw [hc];dsimp only;rw [if_pos ⟨rfl,hl⟩,h1]; exact h2
theorem pA {fn:List D->Sto->Option (D×Sto)} {fs:MFs} (h1:fs w=some (ds,s)) (h2:fn (.r s.length::ds) (s++[.obj k []])=some (.d .none,s2)):pB k fn fs w=some (.r s.length,s2):=by
 unfold pB;rw [h1,Ix,h2]; rfl
theorem fg {o e:MF} {fs:List (Str×D)} (h1:e w=some (d,s1)) (h2:o ⟨w.η,s1⟩=some (.r n,s2)) (hc:s2[n]?=some (.obj k fs)) (hl:fs.length < 999):hG k nm o e w=some (.nx ⟨w.η,s2.set n (.obj k (sq nm d fs))⟩):=by
 unfold hG;rw [h1,Ix,h2,Ix];dsimp only;rw [hc];dsimp only;rw [if_pos ⟨rfl,hl⟩]
theorem G3 {f:MF} {b:Bool} (h:f w=some (.d (.bool b),s)):mB f w=some (b,s):=by
 unfold mB;rw [h]; rfl
theorem sG {o:Iw->Iw->Option Iw} {f g:MF} {x y z:Iw} (h1:f w=some (d1,s1)) (h2:g ⟨w.η,s1⟩=some (d2,s2)) (hx:pD s2 d1=some x) (hy:pD s2 d2=some y) (ho:o x y=some z):mOp o f g w=some (.d z,s2):=by
 unfold mOp;rw [h1,Ix,h2,Ix,hx,Ix,hy,Ix,ho,Ix]
theorem FR {o:List Iw->Option Iw} {fs:MFs} {xs:List Iw} {x:Iw} (h1:fs w=some (ds,s)) (h2:pDs s ds=some xs) (h3:o xs=some x):mCB o fs w=some (.d x,s):=by
 unfold mCB;rw [h1,Ix,h2,Ix,h3]; rfl
theorem dB {a b:Nat} {g:Wd->Option MOut} (hl:ds.length=a) (h:g ⟨ds.map some++JK (b - a) none,s⟩=some (.rt d s1)):cZ a b g ds s=some (d,s1):=by
 unfold cZ;rw [if_pos hl,h]; rfl
theorem u4 {a b:Nat} {g:Wd->Option MOut} (hl:ds.length=a) (h:g ⟨ds.map some++JK (b - a) none,s⟩=some (.nx w1)):cZ a b g ds s=some (.d .none,w1.s):=by
 unfold cZ;rw [if_pos hl,h]; rfl
theorem kC {ks:List Nat} {it:Wd->Option (List Iw×Sto)} {t:En->Iw->Option En} {body:Wd->Option MOut} {xs:List Iw} {r:Option MOut} (h:it w=some (xs,s)) (h2:mGo ks t body xs ⟨w.η,s⟩=r):oV ks it t body w=r:=by
 unfold oV;rw [h]; exact h2
theorem pK {f:En->Option (List Iw)} {xs:List Iw} (h:f (vw w)=some xs):iPu f w=some (xs,w.s):=by
 unfold iPu;rw [h]; rfl
theorem pz {x:Iw} (h:i < w.η.length):mTg [i] (tgN i) w x=some ⟨w.η.set i (some (.d x)),w.s⟩:=by
 have e:((vw w).set i (.val x))[i]?=some (.val x):=IH (by unfold vw; rw [Iy]; exact h);show (some ((vw w).set i (.val x))).bind _=_;rw [Ix];unfold back;rw [e];rfl
theorem lJ {ι:Type} {ks:List Nat} {t:En->Iw->Option En} {body:Wd->Option MOut} (Z:ι->Iw) (Inv:List ι->Wd->Prop) (all:List ι)
  (st:∀ done x rest w,all=done++x::rest->Inv done w->∃ w1 w2,mTg ks t w (Z x)=some w1/\body w1=some (.nx w2)/\Inv (done++[x]) w2) {w:Wd} (h0:Inv [] w):∃ w',mGo ks t body (all.map Z) w=some (.nx w')/\Inv all w':=by
 have key:∀ (rest done:List ι) (w:Wd),all=done++rest->Inv done w->∃ w',mGo ks t body (rest.map Z) w=some (.nx w')/\Inv all w':=by
  intro rest
  induction rest with
  | nil=>intro done w e h; exact ⟨w,rfl,by rw [e,JB]; exact h⟩
  | cons x r ih =>
   intro done w e h;obtain ⟨w1,w2,h1,h2,h3⟩:=st done x r w e h;obtain ⟨w',e1,e2⟩:=ih (done++[x]) w2 (by rw [e]; simp) h3;refine ⟨w',?_,e2⟩;rw [IN];unfold mGo;rw [h1,Ix,h2,Ix];exact e1
 exact key all [] w rfl h0
theorem wB {g:D->Option Iw} {fs:List (Str×D)} (hc:s[n]?=some (.obj k fs)):vwS g s (some (.r n))=.ob λ f=>(fs.lookup f).bind g:=by
 unfold vwS;dsimp only;rw [hc]
end
section
variable {X:Cx} {cl:Nat->IS} {tg iter elt c:Expr} {ifs:List Expr} {scope:Scope} {N':List Str} {mp:List (Option Nat)} {ks:List Nat} {gt:TG} {t:En->Iw->Option En} {fi:Wd->Option (List Iw×Sto)} {p:MTF} {f:MF} {pos:Pos}
theorem uP {α β:Type} {R:α->β->Prop} {as:List α} {bs:List β} (h:Paired R as bs) {a:α} {b:β} (r:R a b):Paired R (as++[a]) (bs++[b]):=by
 induction h with
 | nil=>exact .cons r .nil
 | cons q _ ih=>exact .cons q ih
theorem jp {α β:Type} {R:α->β->Prop} {as:List α} {bs:List β} (h:Paired R as bs):as.length=bs.length:=by
 induction h with
 | nil=>rfl
 | cons q _ ih=>rw [IX,IX,ih]
end
noncomputable def mFz (f:MF):MF:=λ w=>(f w).bind λ r=>match r.1 with
 | .d x=>some (.d x,r.2)
 | .r n=>match r.2[n]? with
  | some (.lst ds)=>(ua ds).bind λ xs=>some (.d (.list xs),r.2.set n (.fz (.list xs)))
  | some (.fz x)=>some (.d x,r.2)
  | _=>none
noncomputable def FQ (c:MTF) (f g:MF):MF:=λ w=>(c w).bind λ r=>if r.1=true then f ⟨w.η,r.2⟩ else g ⟨w.η,r.2⟩
noncomputable def DQ (fs:MFs):MF:=λ w=>(fs w).bind λ r=>if r.1.length<=IB then some (.r r.2.length,r.2++[.lst r.1]) else none
noncomputable def t7 (f g:MF):MF:=λ w=>(f w).bind λ r=>(g ⟨w.η,r.2⟩).bind λ q=>match r.1,q.1 with
 | .r n,.d (.int i)=>(match q.2[n]? with | some (.lst ds)=>(atI ds i).bind λ d=>some (d,q.2) | _=>none)
 | _,_=>none
noncomputable def u5:MF:=λ w=>some (.r w.s.length,w.s++[.dct []])
section
variable {X:Cx} {cl:Nat->IS} {a b c e o:Expr} {es:List Expr} {f g:MF} {fs:MFs} {tc:MTF} {pos:Pos}
theorem CelR.frz {K:Iv} {θ:List IS} {F H:Hp} {a b:IS} {o:HO} {c:Cell} (h:CelR K cl θ F H b c) (hne:b≠a) (hF:F a=none):CelR K cl θ (upd F a o) H b c:=by
 have sn:Same F (upd F a o):=fu hF o;cases c with
 | obj k fs=>obtain ⟨h1,h2,h3,dx,xs,h4,h5⟩:=h; exact ⟨by rw [am hne]; exact h1,h2,h3,dx,xs,h4,h5.mono (Jj _) sn⟩
 | lst ds=>obtain ⟨h1,xs,h4,h5⟩:=h; exact ⟨by rw [am hne]; exact h1,xs,h4,h5.mono (Jj _) sn⟩
 | dct kvs=>obtain ⟨h1,xs,h4,h5⟩:=h; exact ⟨by rw [am hne]; exact h1,xs,h4,h5.mono (Jj _) sn⟩
 | fz x=>exact ⟨Rel.mono sn h.1,h.2⟩
theorem MR.frz {K:Iv} {θ:List IS} {F H:Hp} {s:Sto} (m:MR K cl θ F H s) {n:Nat} {ad:IS} {ds:List D} {xs:List Iw} (e1:θ[n]?=some ad) (e2:s[n]?=some (.lst ds)) (hx:ua ds=some xs) :
  ∃ F',Same F F'/\MR K cl θ F' H (s.set n (.fz (.list xs)))/\Rel K F' (.list xs) (.ref ad):=by
 obtain ⟨h1,vs,h4,h5⟩:=m.cel n ad _ e1 e2;have sn:Same F (upd F ad (.lst vs)):=fu h1 _;have rl:Rel K (upd F ad (.lst vs)) (.list xs) (.ref ad):=kB (SqL.of aw) ((yu h5 hx).mono sn);refine ⟨upd F ad (.lst vs),sn,⟨λ b u q=>?_,by rw [IZ]; exact m.len,m.nd,λ k b c f1 f2=>?_⟩,rl⟩
 ·by_cases hb:b=ad
  ·subst hb; rw [aw] at q; rw [<- q]; exact h4
  ·rw [am hb] at q; exact m.sm b u q
 ·by_cases hk:n=k
  ·subst hk;rw [IH (ID.mp e2).1] at f2;cases f2;rw [e1] at f1;cases f1;exact ⟨rl,_,h4⟩
  ·rw [Iz hk] at f2;exact (m.cel k b c f1 f2).frz (ET m.nd f1 e1 (Ne.symm hk)) h1
theorem Hi:∀ σ H Q,tM X.K cl (mFz f) σ H Q->tM X.K cl f σ H Q:=λ σ H Q ⟨θ,F,w,d,s',m,v,hf,q⟩=>by
 obtain ⟨⟨d1,s1⟩,h1,hf⟩:=ab hf;refine ⟨θ,F,w,d1,s1,m,v,h1,λ u θ1 F1 H1 p1 q1 m1 r1=>?_⟩;cases d1 with
 | d x=>cases hf; exact q u θ1 F1 H1 p1 q1 m1 r1
 | r n =>
  dsimp only at hf;obtain ⟨ad,e1,rfl⟩:=r1;split at hf
  ·rename_i ds e2;obtain ⟨xs,hx,hf⟩:=ab hf;cases hf;obtain ⟨F2,sn,m2,rl⟩:=m1.frz e1 e2 hx;exact q _ θ1 F2 H1 p1 (q1.trans sn) m2 rl
  ·rename_i x e2;cases hf;exact q _ θ1 F1 H1 p1 q1 m1 (m1.cel n ad _ e1 e2).1
  ·cases hf
theorem ME.fz (h:ME X cl e f):ME X cl e (mFz f):=PE.imp h Hi
theorem ME.ifx (hc:MT X cl c tc) (ha:ME X cl a f) (hb:ME X cl b g):ME X cl (.IfExp c a b pos) (FQ tc f g):=PE.imp (xR hc ha hb) λ σ H Q ⟨θ,F,w,d,s',m,v,hf,q⟩=>by
 obtain ⟨⟨x,s1⟩,h1,hf⟩:=ab hf;refine ⟨θ,F,w,x,s1,m,v,h1,λ θ1 F1 H1 p1 q1 m1=>?_⟩;cases x with
 | true =>
  rw [if_pos rfl] at hf ⊢;exact ⟨θ1,F1,⟨w.η,s1⟩,d,s',m1,v.mono p1 q1,hf,λ u θ2 F2 H2 p2 q2 m2 r2=>q u θ2 F2 H2 (p1.trans p2) (q1.trans q2) m2 r2⟩
 | false =>
  rw [if_neg IT] at hf ⊢;exact ⟨θ1,F1,⟨w.η,s1⟩,d,s',m1,v.mono p1 q1,hf,λ u θ2 F2 H2 p2 q2 m2 r2=>q u θ2 F2 H2 (p1.trans p2) (q1.trans q2) m2 r2⟩
theorem xX {θ:List IS} {s:Sto} {p:IS} (h:θ.length=s.length):(θ++[p])[s.length]?=some p:=by rw [<- h,IJ (IF _),Jq]; rfl
theorem ME.lstM (h:MA X cl es fs):ME X cl (.List es pos) (DQ fs):=PE.imp (BI h) λ σ H Q ⟨θ,F,w,d,s',m,v,hf,q⟩=>by
 obtain ⟨⟨ds,s1⟩,h1,hf⟩:=ab hf;dsimp only at hf;split at hf
 ·rename_i hl;cases hf;refine ⟨θ,F,w,ds,s1,m,v,h1,λ vs θ1 F1 H1 p1 q1 m1 r1=>⟨by rw [<- jp r1]; exact hl,λ p hp=>?_⟩⟩;have pp:θ1<+:θ1++[p]:=J8 _ _;exact q _ (θ1++[p]) F1 _ (p1.trans pp) q1 (m1.new hp ⟨m1.sm.free hp,vs,aw,r1.mono pp (.refl _)⟩) ⟨p,xX m1.len,rfl⟩
 ·cases hf
theorem ME.dict0:ME X cl (.Dict [] [] pos) u5:=PE.imp BM λ σ H Q ⟨θ,F,w,d,s',m,v,hf,q⟩ p hp=>by
 cases hf;have pp:θ<+:θ++[p]:=J8 _ _;exact q _ (θ++[p]) F _ pp (.refl _) (m.new hp ⟨m.sm.free hp,[],aw,.nil⟩) ⟨p,xX m.len,rfl⟩
theorem DRs.atI {K:Iv} {θ:List IS} {F:Hp} {ds:List D} {vs:List V} (h:DRs K θ F ds vs) {i:Int} {d:D} (e:L2.atI ds i=some d):∃ v,L2.atI vs i=some v/\DR K θ F d v:=by
 unfold L2.atI at e ⊢;obtain ⟨j,h1,h2⟩:=ab e;rw [<- jp h,h1,Ix];exact h.get h2
theorem ME.ixL (ha:ME X cl a f) (hb:ME X cl b g) (hs:qa b:=by intro _ _; rfl):ME X cl (.Subscript a b pos) (t7 f g):=PE.imp (BJ ix_list ha hb hs) λ σ H Q ⟨θ,F,w,d,s',m,v,hf,q⟩=>by
 obtain ⟨⟨d1,s1⟩,h1,hf⟩:=ab hf;obtain ⟨⟨d2,s2⟩,h2,hf⟩:=ab hf;dsimp only at hf;split at hf
 ·rename_i _ n i _;split at hf
  ·rename_i ds hc;obtain ⟨d3,hd,hf⟩:=ab hf;cases hf;refine ⟨θ,F,w,_,s1,m,v,h1,λ u θ1 F1 H1 p1 q1 m1 r1=>⟨θ1,F1,⟨w.η,s1⟩,_,_,m1,v.mono p1 q1,h2,λ u2 θ2 F2 H2 p2 q2 m2 r2=>?_⟩⟩;obtain ⟨ad,z1,rfl⟩:=r1.mono p2 q2;have r2':Rel X.K F2 (.int i) u2:=r2;obtain ⟨w1,xs,w3,w4⟩:=m2.cel _ ad _ z1 hc;obtain ⟨x,y1,y2⟩:=DRs.atI w4 hd;exact ⟨ad,xs,i,x,rfl,r2'.int,SqL.of w3,y1,q x θ2 F2 H2 (p1.trans p2) (q1.trans q2) m2 y2⟩
  ·cases hf
 ·cases hf
end
noncomputable def qv (o g:MF):MF:=λ w=>(o w).bind λ r=>match r.1 with
 | .r n=>(match r.2[n]? with
  | some (.lst _)=>(g ⟨w.η,r.2⟩).bind λ q=>(pD q.2 q.1).bind λ x=>match x,q.2[n]? with
   | .list ys,some (.lst ds)=>if ds.length+ys.length<=IB then some (.d .none,q.2.set n (.lst (ds++ys.map .d))) else none
   | _,_=>none
  | _=>none)
 | _=>none
noncomputable def wg (o g:MF):MF:=λ w=>(o w).bind λ r=>match r.1 with
 | .r n=>(match r.2[n]? with
  | some (.lst _)=>(g ⟨w.η,r.2⟩).bind λ q=>match q.2[n]? with
   | some (.lst ds)=>if ds.length < IB then some (.d .none,q.2.set n (.lst (ds++[q.1]))) else none
   | _=>none
  | _=>none)
 | _=>none
section
variable {X:Cx} {cl:Nat->IS} {o e:Expr} {f g:MF} {apos cpos:Pos}
theorem tz {α β:Type} {R:α->β->Prop} {as as':List α} {bs bs':List β} (h:Paired R as bs) (h':Paired R as' bs'):Paired R (as++as') (bs++bs'):=by
 induction h with
 | nil=>exact h'
 | cons q _ ih=>exact .cons q ih
theorem ME.extC (ho:ME X cl o f) (he:ME X cl e g) (hbase:attributeBase o "extend" X.env (eval o X.env)=eval o X.env:=by rfl)
  (hfew:((backTo cpos (II [e] X.env)).all (λ x=>!x.1)&&(backToKw cpos (keywordEach [] X.env)).all (λ x=>x.1.isSome)
   && decide ([e].length+([]:List Keyword).length+(if ([]:List Keyword).isEmpty then 0 else 1) < 30))=true:=by rfl)
  (hline:(apos.endLine==cpos.line)=true:=by rfl) (hs:II [e] X.env=(false,eval e X.env)::II [] X.env:=by exact cg rfl) (hplain:(backTo cpos (II [] X.env)).any (·.1)=false:=by rfl) :
  ME X cl (.Call (.Attribute o "extend" apos) [e] [] cpos) (qv f g) :=
 PE.imp (zS PySem.F.plainAttrs_list PySem.F.slot_list_extend PySem.F.type_list_extend z5 ho (ao he bw hs) hbase hfew hline hs hplain) λ σ H Q ⟨θ,F,w,d,s',m,v,hf,q⟩=>by
  obtain ⟨⟨d1,s1⟩,h1,hf⟩:=ab hf;cases d1 with
  | d x=>cases hf
  | r n =>
   dsimp only at hf;split at hf
   ·rename_i ds0 hc0;obtain ⟨⟨d2,s2⟩,h2,hf⟩:=ab hf;obtain ⟨x,hx,hf⟩:=ab hf;dsimp only at hf hx;split at hf
    ·rename_i ys ds hc;split at hf
     ·rename_i hl;cases hf;refine ⟨θ,F,w,_,s1,m,v,h1,λ u θ1 F1 H1 p1 q1 m1 r1=>?_⟩;obtain ⟨ad,z1,rfl⟩:=r1;obtain ⟨w1,xs0,w3,w4⟩:=m1.cel n ad _ z1 hc0;refine ⟨.inl ⟨rfl,xs0,SqL.of w3⟩,θ1,F1,⟨w.η,s1⟩,[d2],s2,m1,v.mono p1 q1,aD h2 bD,λ vs θ2 F2 H2 p2 q2 m2 r2=>?_⟩;cases r2 with
      | cons ra rn =>
       cases rn;have rx:=uD m2 _ _ _ hx ra;obtain ⟨b,zs,rfl,hq,r3⟩:=rx.lst;have z2:=jD p2 z1;obtain ⟨w5,xs,w6,w7⟩:=m2.cel n ad _ z2 hc;have hlx:=jp w7;refine ⟨ad,b,xs,zs,rfl,rfl,w6,m2.sm.seq hq,by rw [<- hlx,r3.length]; exact hl,?_⟩;exact q _ θ2 F2 _ (p1.trans p2) (q1.trans q2) (m2.put (c':=.lst (ds++ys.map .d)) z2 hc rfl ⟨w5,xs++zs,aw,tz w7 (yP r3)⟩) (show Rel X.K F2 .none .non from p6)
     ·cases hf
    ·cases hf
   ·cases hf
theorem ME.appC (ho:ME X cl o f) (he:ME X cl e g) (hbase:attributeBase o "append" X.env (eval o X.env)=eval o X.env:=by rfl)
  (hfew:((backTo cpos (II [e] X.env)).all (λ x=>!x.1)&&(backToKw cpos (keywordEach [] X.env)).all (λ x=>x.1.isSome)
   && decide ([e].length+([]:List Keyword).length+(if ([]:List Keyword).isEmpty then 0 else 1) < 30))=true:=by rfl)
  (hline:(apos.endLine==cpos.line)=true:=by rfl) (hs:II [e] X.env=(false,eval e X.env)::II [] X.env:=by exact cg rfl) (hplain:(backTo cpos (II [] X.env)).any (·.1)=false:=by rfl) :
  ME X cl (.Call (.Attribute o "append" apos) [e] [] cpos) (wg f g) :=
 PE.imp (zS PySem.F.plainAttrs_list PySem.F.slot_list_append PySem.F.type_list_append sC ho (ao he bw hs) hbase hfew hline hs hplain) λ σ H Q ⟨θ,F,w,d,s',m,v,hf,q⟩=>by
  obtain ⟨⟨d1,s1⟩,h1,hf⟩:=ab hf;cases d1 with
  | d x=>cases hf
  | r n =>
   dsimp only at hf;split at hf
   ·rename_i ds0 hc0;obtain ⟨⟨d2,s2⟩,h2,hf⟩:=ab hf;dsimp only at hf;split at hf
    ·rename_i ds hc;split at hf
     ·rename_i hl;cases hf;refine ⟨θ,F,w,_,s1,m,v,h1,λ u θ1 F1 H1 p1 q1 m1 r1=>?_⟩;obtain ⟨ad,z1,rfl⟩:=r1;obtain ⟨w1,xs0,w3,w4⟩:=m1.cel n ad _ z1 hc0;refine ⟨.inl ⟨rfl,xs0,SqL.of w3⟩,θ1,F1,⟨w.η,s1⟩,[d2],s2,m1,v.mono p1 q1,aD h2 bD,λ vs θ2 F2 H2 p2 q2 m2 r2=>?_⟩;cases r2 with
      | @cons _ y _ _ ra rn =>
       cases rn;have z2:=jD p2 z1;obtain ⟨w5,xs,w6,w7⟩:=m2.cel n ad _ z2 hc;have hlx:=jp w7;refine ⟨ad,xs,y,rfl,rfl,w6,by rw [<- hlx]; exact hl,?_⟩;exact q _ θ2 F2 _ (p1.trans p2) (q1.trans q2) (m2.put (c':=.lst (ds++[d2])) z2 hc rfl ⟨w5,xs++[y],aw,uP w7 ra⟩) (show Rel X.K F2 .none .non from p6)
     ·cases hf
    ·cases hf
   ·cases hf
end
theorem Cz {X:Cx} {pins:List (IS×Obj)} {σ:St} {H:Hp} {s:IG} {a:IS} {kvs:List (Key×V)} {k:Key} {u r:IE} {z:V} {A:JH} {E:IE->IG->Prop} {Q:IE->IG->Prop} (I:Inv X pins σ H s) (e:H a=some (.dK kvs)) (ry:RelV (kV k) u) (rz:RelV z r)
  (there:∀ v,lX kvs k=some v->∀ w' s',Inv X pins σ H s'->RelV v w'->Q w' s') (new:lX kvs k=none->kvs.length < IB/\∀ s',Inv X pins σ (upd H a (.dK (qc kvs k z))) s'->Q r s'):Jp (Jt X.prog X.w) A (call (.builtin "dict.setdefault") [.ref a,u,r]) Q E s:=by
 obtain ⟨zz,hd,vs,rel,dd⟩:=Cv I.hok e;refine call_meetsIn PySem.F.slot_dict_setdefault dd.typeIs PySem.F.entry_dict_setdefault (PySem.F.args_dict_setdefault_3 _ _ _) (PySem.kt_meets_setdefault (eG X.prog X.w) a (ve ry) hd r) ⟨vs,dd,by rw [<- rel.length]; exact zz,λ v hv=>?_,λ hn h' dd' hs=>?_⟩
 ·cases l:lX kvs k with
  | none =>
   have hn:valueAt vs k=none:=RelO.none_of (by rw [<- l]; exact rel.val k);rw [hn] at hv; cases hv
  | some x =>
   obtain ⟨w',hw,rw'⟩:=RelO.some_of (v:=x) (o:=valueAt vs k) (by rw [<- l]; exact rel.val k);rw [hw] at hv;cases hv;exact there x l _ _ (I.tok _) rw'
 ·cases l:lX kvs k with
  | some x =>
   obtain ⟨w',hw,rw'⟩:=RelO.some_of (v:=x) (o:=valueAt vs k) (by rw [<- l]; exact rel.val k);rw [hw] at hn; cases hn
  | none =>
   obtain ⟨hl,q⟩:=new l;have he:∃ q,h'.get? a=some q:=let ⟨q,_,_,hq,_⟩:=dd'; ⟨q,hq⟩;exact q _ (ut I (by rw [e]; exact True.intro) hs he (zl (by have:=pC kvs k z; omega) hd (rel.put k rz) dd'))
noncomputable def HQ (td ty tx:TE):TE:=λ σ H Q=>td σ H λ x H1=>∃ a,x=.ref a/\IsD H1 a/\ty σ H1 λ y H2=>tx σ H2 λ z H3=>∃ kvs k,H3 a=some (.dK kvs)/\y=kV k /\
 (∀ v,lX kvs k=some v->Q v H3)/\(lX kvs k=none->kvs.length < IB/\Q z (upd H3 a (.dK (qc kvs k z))))
theorem FG {X:Cx} {o e f:Expr} {apos cpos:Pos} {td ty tx:TE} (ho:PE X o td) (he:PE X e ty) (hf:PE X f tx) (m:M2 X o "setdefault" apos e f cpos):PE X (.Call (.Attribute o "setdefault" apos) [e,f] [] cpos) (HQ td ty tx):=by
 intro pins s σ H Q I h;refine wpAny_Call_method m.base m.few m.line PySem.F.plainAttrs_dict PySem.F.slot_dict_setdefault PySem.F.type_dict_setdefault (thn (ho pins s σ H _ I h) λ u s1 ⟨x,H1,I1,rx,a,ex,d,q1⟩=>?_);subst ex;obtain rfl:u=Value.ref a:=rx;obtain ⟨t1,t2,_⟩:=zf I1 d;refine ⟨t1,t2,?_⟩;rw [m.trees];refine Calls.callWith_builtin rfl (Calls.evalArgs_plain (Calls.spliced_cons (thn (he pins s1 σ H1 _ I1 q1) λ iv s2 ⟨y,H2,I2,ry,q2⟩ =>
  Calls.spliced_cons (thn (hf pins s2 σ H2 _ I2 q2) λ fv s3 ⟨z,H3,I3,rz,kvs,k,ea,ey,q3,q4⟩=>Calls.spliced_nil ?_))))
 subst ey;exact Cz I3 ea ry rz (λ v l w' s4 I4 rw'=>⟨v,H3,I4,rw',q3 v l⟩) λ l=>⟨(q4 l).1,λ s4 I4=>⟨z,_,I4,rz,(q4 l).2⟩⟩
noncomputable def u8:Iw->Option Key
 | .int i=>some (.inl i)
 | .str x=>some (.inr x)
 | _=>none
noncomputable def bE (kvs:List (Key×D)) (k:Key):Option D:=(kvs.find? λ kv=>decide (kv.1=k)).map (·.2)
theorem DRk.look {K:Iv} {θ:List IS} {F:Hp} {kvs:List (Key×D)} {vs:List (Key×V)} (h:DRk K θ F kvs vs) (k:Key):(∀ d,bE kvs k=some d->∃ v,lX vs k=some v/\DR K θ F d v)/\(bE kvs k=none->lX vs k=none):=by
 induction h with
 | nil=>exact ⟨λ d e=>(by cases e),λ _=>rfl⟩
 | @cons a b as bs r t ih =>
  by_cases hk:a.1=k
  ·have hb:b.1=k:=by rw [<- r.1]; exact hk
   have e1:bE (a::as) k=some a.2:=by simp [bE,JM,hk]
   rw [e1,rc hb];exact ⟨λ d e=>(by cases e; exact ⟨_,rfl,r.2⟩),λ e=>(by cases e)⟩
  ·have hb:¬ b.1=k:=by rw [<- r.1]; exact hk
   have e1:bE (a::as) k=bE as k:=by simp [bE,JM,hk]
   rw [e1,re hb];exact ih
theorem Bv {kvs:List (Key×V)} {k:Key} {z:V} (h:lX kvs k=none):qc kvs k z=kvs++[(k,z)]:=by
 unfold qc;rw [if_neg];intro hc;obtain ⟨p,hp,hk⟩:=JZ.mp hc;unfold lX at h;rw [Option.map_eq_none_iff] at h;exact absurd hk (List.find?_eq_none.mp h p hp)
noncomputable def B3 (o g f:MF):MF:=λ w=>(o w).bind λ r=>match r.1 with
 | .r n=>(match r.2[n]? with
  | some (.dct _)=>(g ⟨w.η,r.2⟩).bind λ q=>match q.1 with
   | .d x=>(u8 x).bind λ k=>(f ⟨w.η,q.2⟩).bind λ z=>match z.2[n]? with
    | some (.dct kvs)=>(match bE kvs k with
     | some d=>some (d,z.2)
     | none=>if kvs.length < IB then some (z.1,z.2.set n (.dct (kvs++[(k,z.1)]))) else none)
    | _=>none
   | _=>none
  | _=>none)
 | _=>none
theorem ME.setdef {X:Cx} {cl:Nat->IS} {o e c:Expr} {f g h:MF} {apos cpos:Pos} (ho:ME X cl o f) (he:ME X cl e g) (hc:ME X cl c h) (mm:M2 X o "setdefault" apos e c cpos:=by exact ⟨rfl,rfl,rfl,rfl⟩) :
  ME X cl (.Call (.Attribute o "setdefault" apos) [e,c] [] cpos) (B3 f g h):=PE.imp (FG ho he hc mm) λ σ H Q ⟨θ,F,w,d,s',m,v,hf,q⟩=>by
 obtain ⟨⟨d1,s1⟩,h1,hf⟩:=ab hf;cases d1 with
 | d x=>cases hf
 | r n =>
  dsimp only at hf;split at hf
  ·rename_i kv0 hc0;obtain ⟨⟨d2,s2⟩,h2,hf⟩:=ab hf;cases d2 with
   | r n2=>cases hf
   | d x =>
    dsimp only at hf;obtain ⟨k,hk,hf⟩:=ab hf;obtain ⟨⟨d3,s3⟩,h3,hf⟩:=ab hf;dsimp only at hf;split at hf
    ·rename_i kvs hc3;refine ⟨θ,F,w,_,s1,m,v,h1,λ u θ1 F1 H1 p1 q1 m1 r1=>?_⟩;obtain ⟨ad,z1,rfl⟩:=r1;obtain ⟨w1,ks0,w3,w4⟩:=m1.cel n ad _ z1 hc0;refine ⟨ad,rfl,.inl ⟨ks0,.inl w3⟩,θ1,F1,⟨w.η,s1⟩,.d x,s2,m1,v.mono p1 q1,h2,λ u2 θ2 F2 H2 p2 q2 m2 r2=>?_⟩;refine ⟨θ2,F2,⟨w.η,s2⟩,d3,s3,m2,v.mono (p1.trans p2) (q1.trans q2),h3,λ u3 θ3 F3 H3 p3 q3 m3 r3=>?_⟩;have z3:=jD p3 (jD p2 z1);obtain ⟨w5,ks,w6,w7⟩:=m3.cel n ad _ z3 hc3;have ey:u2=kV k:=by
      cases x <;> simp only [u8,Option.some.injEq,reduceCtorEq] at hk
      ·subst hk; exact (show Rel X.K F2 (.int _) u2 from r2).int
      ·subst hk; exact (show Rel X.K F2 (.str _) u2 from r2).str
     refine ⟨ks,k,w6,ey,λ vv hv=>?_,λ hn=>?_⟩
     ·cases l:bE kvs k with
      | none=>rw [(w7.look k).2 l] at hv; cases hv
      | some dd =>
       rw [l] at hf;cases hf;obtain ⟨v',e1,e2⟩:=(w7.look k).1 _ l;rw [hv] at e1;cases e1;exact q _ θ3 F3 H3 (p1.trans (p2.trans p3)) (q1.trans (q2.trans q3)) m3 e2
     ·cases l:bE kvs k with
      | some dd =>
       obtain ⟨v',e1,_⟩:=(w7.look k).1 _ l;rw [hn] at e1; cases e1
      | none =>
       rw [l] at hf;dsimp only at hf;split at hf
       ·rename_i hl;cases hf;rw [Bv hn];refine ⟨by rw [<- jp w7]; exact hl,q _ θ3 F3 _ (p1.trans (p2.trans p3)) (q1.trans (q2.trans q3)) (m3.put (c':=.dct (kvs++[(k,d)])) z3 hc3 rfl ⟨w5,ks++[(k,u3)],aw,uP w7 ⟨rfl,r3⟩⟩) r3⟩
       ·cases hf
    ·cases hf
  ·cases hf
noncomputable def DX (f g:MF):MF:=λ w=>(f w).bind λ r=>match r.1 with | .d x=>(asB x).bind λ c=>if c=true then g ⟨w.η,r.2⟩ else some (.d (.bool false),r.2) | _=>none
section
variable {X:Cx} {cl:Nat->IS} {a b e:Expr} {rest es:List Expr} {f g:MF} {fs:MFs} {pos pp:Pos}
theorem ME.one {op} (ha:ME X cl a f):ME X cl (.BoolOp op [a] pos) f:=BF ha
theorem ME.and (ha:ME X cl a f) (hb:ME X cl (.BoolOp .And (b::rest) pos) g):ME X cl (.BoolOp .And (a::b::rest) pos) (DX f g):=PE.imp (BP ha hb) λ σ H Q ⟨θ,F,w,d,s',m,v,hf,q⟩=>by
 obtain ⟨⟨d1,s1⟩,h1,hf⟩:=ab hf;cases d1 with
 | r n=>cases hf
 | d x =>
  dsimp only at hf;obtain ⟨c,hc,hf2⟩:=ab hf;clear hf;obtain rfl:=mz hc;have hf:=hf2;clear hf2;refine ⟨θ,F,w,_,s1,m,v,h1,λ u θ1 F1 H1 p1 q1 m1 r1=>⟨c,(show Rel X.K F1 (.bool c) u from r1).bl,?_⟩⟩;cases c with
  | false =>
   rw [if_neg IT] at hf ⊢;cases hf;exact q _ θ1 F1 H1 p1 q1 m1 (show Rel X.K F1 (.bool false) _ from gz)
  | true =>
   rw [if_pos rfl] at hf ⊢;exact ⟨θ1,F1,⟨w.η,s1⟩,d,s',m1,v.mono p1 q1,hf,λ u θ2 F2 H2 p2 q2 m2 r2=>q u θ2 F2 H2 (p1.trans p2) (q1.trans q2) m2 r2⟩
end
section
variable {X:Cx} {cl:Nat->IS} {tg e:Expr} {f:MF} {pos:Pos}
noncomputable def DO (ks:List Nat) (f:MF) (t:En->Iw->Option En):Wd->Option MOut:=λ w=>(f w).bind λ r=>match r.1 with | .d d=>(mTg ks t ⟨w.η,r.2⟩ d).bind λ w'=>some (.nx w') | _=>none
theorem MS.unp {gt:TG} {ks:List Nat} {t:En->Iw->Option En} (he:ME X cl e f) (hg:PG X tg gt) (ht:TgP X.K ks gt t) (hs:swapsWithSole [tg] e pos.line X.env=pure false:=by rfl) (hw:swappedStores [tg] e X.env=pure none:=by rfl)
  (h1:(assignEach [tg] X.env).map (·.2)=[assign tg X.env]:=by rfl):MS X cl (.Assign [tg] e pos) (DO ks f t) :=
 PS.imp (Fz he hg hs hw h1) λ Z σ H ⟨θ,F,w,o,m,v,hf,q⟩=>by
  obtain ⟨⟨d,s1⟩,h2,hf⟩:=ab hf;dsimp only at hf;split at hf
  ·rename_i dd;obtain ⟨w',h3,hf⟩:=ab hf;cases hf;refine ⟨θ,F,w,.d dd,s1,m,v,h2,λ u θ' F' H' p' s' m' r'=>?_⟩;exact EH (w:=⟨w.η,s1⟩) ht m' (v.mono p' s') r' h3 λ σ2 F2 H2 sm mr mv=>q σ2 θ' F2 H2 p' (s'.trans sm) mr mv
  ·cases hf
theorem DN {w w':Wd} {ks:List Nat} {t:En->Iw->Option En} {d:Iw} {s1:Sto} (h1:f w=some (.d d,s1)) (h2:mTg ks t ⟨w.η,s1⟩ d=some w'):DO ks f t w=some (.nx w'):=by
 unfold DO;rw [h1,Ix];dsimp only;rw [h2]; rfl
end
structure Fly (P:Jg) (w:World) (outer:List Env) (H:Hp) (s:IG) (a C:IS) (H':Hp) (s':IG):Prop where
 os:s'.os=s.os
 bare:AllBare s'.gens
 un:Un (frs outer) [] H H' s.heap s'.heap
 hok:HOk P w H' s'.heap
 nofr:∀ b∈frs outer,H' b=none
 fly:∃ (B:Heap) (t:IS),Heap.FlyingW B outer a (.ref C) (.ref t) s'.heap/\∀ b o,s'.heap.get? b=some o->((∃ u,H' b=some u)\/∃ o₀,s.heap.get? b=some o₀)->b∉frs outer->B.get? b=some o
section
variable {X:Cx} {B:Bd} {W:Nat->Hp->Prop} {ca:Nat->IS}
variable {st:Stmt} {sts sts':List Stmt} {e a b:Expr} {es:List Expr} {f:En->Option Iw} {fs:En->Option (List Iw)} {g g':En->Option Nat} {u:En->Option Out} {p:En->Option Bool} {pos pos':Pos}
end
section
variable {X:Cx} {B:Bd} {W:Nat->Hp->Prop} {ca:Nat->IS} {e a b c:Expr} {f:En->Option Iw} {p q r:En->Bool} {pos pos':Pos}
end
noncomputable abbrev Ik:List IE:=[.type "ValueError", .type "Exception", .type "BaseException", .type "object"]
structure XCls (K:Iv) (D:IS):Prop where
 ex:PySem.W.excIn K D Ik "ValueError.__new__" = true
 ga:Jy K (.ref D) "__getattribute__" = some (some (.builtin "BaseException.__getattribute__"))
 gt:Jy K (.ref D) "__getattr__" = some none
 cl:Jy K (.ref D) "__class__" = some (some (.builtin "object.__class__"))
 gg:PySem.W.specialIn K (.builtin "object.__class__") "__get__" = some (some (.builtin "getset_descriptor.__get__"))
 tk:PySem.W.takesIn K (.builtin "object.__class__")=some true
 mb:PySem.W.mroIn K D (.type "BaseException")=some true
 mo:PySem.W.mroIn K D (.type "object")=some true
section
variable {P:Jg} {w:World} {A:JH} {Z:IE->IG->Prop} {s:IG} {K:Iv} {x D:IS}
end
section
variable {X:Cx} {pos pp ep tp:Pos} {en T:Str}
end
structure Hx (k:Nat) (A:JH):Prop where
 dp:A.depth+3*k+5 < recursionLimit
 un:A.units+16*k+200 < cLine
noncomputable abbrev Cx.at (X:Cx) (A:JH):Cx:={ X with A:=A,calm:=false,xe:=λ _ _=>False }
noncomputable abbrev SpC:=List V->Hp->VK->Prop
structure FnC (P:Jg) (w:World) (K:Iv) (mg:Str->Option IE) (base:Heap) (k:Nat) (f:IS) (fd:Jx) (ps:List Str) (sp:SpC):Prop where
 len:∀ vs H Q,sp vs H Q->vs.length=ps.length
 run:∀ (A:JH) (outer:List Env) (s:IG) (H:Hp) (us:List IE) (vs:List V) (Q:VK),Hx k A->Env0 P w K mg base A outer s H->BindsTo s fd ⟨us,[]⟩ (ps.zip us)->Vals vs us->sp vs H Q ->
  codeAny (Jt P w) A (.call (.ref f) ⟨us,[]⟩) (CR CX0 outer P w H s Q E0) s
structure Refs (K:Iv) (ca:Nat->IS):Prop where
 xc:∀ c,c < 4->XCls K (ca c)
 kit:∀ c i,c < 4->i < 4->PySem.W.kitOne K (.ref (ca c)) (.ref (ca i))=some (decide (c=i))
 val:∀ c,c < 4->PySem.W.kitOne K (.ref (ca c)) (.type "ValueError")=some true
section
variable (K:Iv) (cl:Nat->IS) (W:Nat->Hp->Prop)
end
noncomputable abbrev MXF:=Wd->Option (Nat×Sto)
section
variable {X:Cx} {cl:Nat->IS} {W:Nat->Hp->Prop} {ca:Nat->IS} {st:Stmt} {sts sts':List Stmt} {e o:Expr} {es:List Expr} {u:Wd->Option MOut} {f:MF} {fs:MFs} {g g':MXF} {px:En->Option Nat} {p:MTF} {pos pos':Pos}
end
noncomputable def yc (fs:MFs):MF:=λ w=>(fs w).bind λ r=>(pDs r.2 r.1).bind λ xs=>if xs.length<=IB then some (.d (.tuple xs),r.2) else none
section
variable {X:Cx} {cl:Nat->IS} {o e:Expr} {f:MF} {apos cpos pos pp:Pos}
theorem ME.tupM {x1} {es:List Expr} {fs:MFs} (h:MA X cl es fs):ME X cl (.Tuple es x1 pos) (yc fs):=PE.imp (BD h) λ σ H Q ⟨θ,F,w,d,s',m,v,hf,q⟩=>by
 obtain ⟨⟨ds,s1⟩,h1,hf⟩:=ab hf;obtain ⟨xs,h2,hf⟩:=ab hf;split at hf
 ·rename_i hl;cases hf;refine ⟨θ,F,w,ds,_,m,v,h1,λ vs θ1 F1 H1 p1 q1 m1 r1=>?_⟩;have rs:=zX m1 r1 h2;refine ⟨by rw [rs.length]; exact hl,λ p hp=>?_⟩;have g2:Gr F1 H1 (upd F1 p (.tup vs)) (upd H1 p (.tup vs)):=Gr.one m1.sm hp;exact q _ θ1 _ _ p1 (q1.trans g2.ff) (m1.grow g2) (show Rel X.K _ (.tuple xs) (.ref p) from iD (SqT.of aw) (rs.mono g2.ff))
 ·cases hf
end
section
variable {X:Cx} {tg a b c:Expr} {B:Bd} {fs:En->Option (List Iw)} {pos:Pos}
end
section
variable {X:Cx} {cl:Nat->IS} {tg a b e:Expr} {f g:MF} {pos:Pos}
end
theorem yX {α β:Type} {R:α->β->Prop} {as:List α} {bs:List β} (h:Paired R as bs) {i:Nat} {b:β} (e:bs[i]?=some b):∃ a,as[i]?=some a/\R a b:=by
 induction h generalizing i with
 | nil=>simp at e
 | @cons a b as bs r t ih =>
  cases i with
  | zero=>simp at e; subst e; exact ⟨a,rfl,r⟩
  | succ i=>exact ih (by simpa using e)
theorem vo:entryFor table "dict_itemiterator.__iter__" = some Builtin.«dict_keyiterator.__iter__»:=entryFor_alias (id' := "dict_keyiterator.__iter__") (by kernel_rfl) rfl (by decide +kernel) (by kernel_rfl)
theorem oP {prog:Jg} {w:World} {A:JH} {E:IE->IG->Prop} {s:IG} {it d:IS} {i n ep:Nat} {ok ov:IE} {Q:IE->IG->Prop} (hit:IsItemIter s.heap it d i n ep ok ov) (h:Q (.ref it) s):Jp (Jt prog w) A (pyIter (.ref it)) Q E s:=by
 have hT:s.TypeIs (.ref it) "dict_itemiterator" := ⟨_,hit,rfl⟩;refine wpAny_pyIter_slot hT PySem.F.slot_dict_itemiterator_iter (wpAny_call_entry PySem.F.slot_dict_itemiterator_iter hT vo ?_ (PySem.F.args_dict_itemiterator_iter_1 _));show Jp _ _ (ret (.ref it)) _ _ s;exact Ja ⟨_,rfl, "dict_itemiterator", _,hT,PySem.F.slot_dict_itemiterator_next.lookup,h⟩
noncomputable def Iti (p:IS) (ob:Obj) (ks:List (Key×V)):It :=
 ⟨λ i H=>i < ks.length/\H p=some (.frz ob (.dK ks)),λ i H v H'=>∃ T k x,H T=none/\ks[i]?=some (k,x)/\v=.ref T/\H'=upd H T (.tup [kV k,x]),λ i H=>i=ks.length/\H p=some (.frz ob (.dK ks))⟩
theorem yM {P:Jg} {w:World} {K:Iv} {elts:List Expr} {kk:Nat} {tp:Pos} (it p:IS) (ob:Obj) (ks:List (Key×V)) {es:Array DictEntry} {ep:Nat} (hd:ob.data=.dict es ep) :
  Turn P w K (.Tuple elts kk tp) (Iti p ob ks) [it] it (λ i h=>∃ ok ov,IsItemIter h it p i ks.length ep ok ov) where
 mem:=by simp
 obj:=λ i h st b hb=>by
  rw [Jc.mp hb];obtain ⟨ok,ov,he⟩:=st;exact ⟨_,he,λ v z=>by cases z⟩
 keep:=λ i h h' st k=>by
  obtain ⟨ok,ov,he⟩:=st;exact ⟨ok,ov,k it (by simp) _ he⟩
 item:=by
  intro X hP hw hK hc i pins s σ H E I hf st hg;subst hP hw hK;obtain ⟨hi,hH⟩:=hg;obtain ⟨f0,f1,f2,f3,f4,f5⟩:=hf it (by simp);obtain ⟨y,vs,r,da⟩:=vF hd I.hok hH;have hl:ks.length=vs.length:=r.length;have hi2:i < vs.length:=by omega
  obtain ⟨⟨k,u⟩,hx⟩:∃ q,vs[i]?=some q:=⟨vs[i],Jb hi2⟩;obtain ⟨⟨k',x⟩,hk',ek,ru⟩:=yX r hx;have ek:k'=k:=ek;subst ek;obtain ⟨ok,ov,he⟩:=st;rw [hl] at he;refine wpAny_pyNext_items_item he da hx λ key h' hkey ho hT hsz hk=>⟨.ref s.heap.objs.size,rfl,?_⟩;refine wpAny_letOwnedTupleGo_items (s:={ s with heap:=h' }) ho λ h'' he'' hs''=>?_;generalize hTe:s.heap.objs.size=T at *;have hTs:s.heap.objs.size<=T:=by rw [hTe]; exact IF _
  have nT:H T=none:=I.hok.fresh hTs;have ltT:∀ b o,s.heap.get? b=some o->b≠T:=λ b o q=>Je (IV (IU q) hTs);have itT:T≠it:=λ z=>ltT it _ he z.symm;have kall:∀ b o,b∉[it]->s.heap.get? b=some o->h''.get? b=some o:=λ b o hb q=>hs''.extBut b o (by simpa using hb) (hk b o (by simpa using hb) q);have hIs'':IsTup h'' T #[key,u]:=⟨_,hs''.extBut T _ itT hT,rfl,_,rfl⟩;have J:Inv X pins σ (upd H T (.tup [kV k',x])) { s with heap:=h'' }:=by
   refine I.step (h':=h'') (g':=s.gens) (d':=s.drawn) (t':=s.toks) (ch:=[it]) (λ b hb=>⟨(hf b hb).2.2.2.1,(hf b hb).2.1,(hf b hb).2.2.2.2.1,(hf b hb).2.2.2.2.2⟩)
    (λ b o _ _ hb q _=>kall b o hb q) (λ b o _ _ hb q _=>⟨o.slots,kall b o hb q⟩) (λ b o _ q n=>by rw [am (ltT b o q)]; exact n) (λ b o hb q=>⟨o,kall b o hb q⟩)
    (λ b xs q=>by rw [am (aB q nT)]; exact q) (λ b o xs q=>by rw [am (aB q nT)]; exact q) (λ b ps q=>⟨#[],by rw [am (aB q nT),q]; simp⟩) (λ m hm=>?_) (λ b o q=>?_) I.bare
   ·obtain ⟨o,es,ep,ho,r⟩:=hm;refine ⟨o,es,ep,kall _ o (λ hb=>?_) ho,r⟩;exact (hf _ hb).2.1 rfl
   ·by_cases hb:b=T
    ·subst hb;rw [aw] at q;cases q;exact ⟨by show 2<=IB; decide,[key,u],.cons (D7 hkey) (.cons ru .nil),hIs''⟩
    ·rw [am hb] at q;have nfp:∀ b o,H b=some o->b∉[it]:=λ b o q hb=>by rw [(hf b hb).1] at q; cases q
     refine (I.hok b o q).stay (λ c' v hc' z=>kall c' v ?_ z) (λ c' z=>by rw [am (aB z nT)]; exact z) λ c' xs z=>by rw [am (aB z nT)]; exact z
     rcases hc' with rfl | hc'
     ·exact nfp _ _ q
     ·exact nfp _ _ hc'
  refine ⟨.ref T,upd H T (.tup [kV k',x]),J,rfl,⟨T,k',x,nT,hk',rfl,rfl⟩,⟨_,_,by rw [hl]; exact he''⟩,λ b hb=>?_⟩;have nb:b≠T:=λ z=>itT (by rw [<- z]; exact Jc.mp hb);rw [am nb]; exact (hf b hb).1
 done:=by
  intro X hP hw hK hc i pins s σ H E I hf st hg;subst hP hw hK;obtain ⟨hi,hH⟩:=hg;obtain ⟨f0,f1,f2,f3,f4,f5⟩:=hf it (by simp);obtain ⟨y,vs,r,da⟩:=vF hd I.hok hH;have hl:ks.length=vs.length:=r.length;obtain ⟨ok,ov,he⟩:=st;rw [hl] at he;exact wpAny_pyNext_items_end (I.ok.hd hc) he da (Ji (by omega)) λ h' he'=>⟨rfl,I.turned (t':=s.toks) (λ b o hb e=>he' b o hb e) f0 f1 f3 f4 f5⟩
 self:=λ _ _ _ _ _ st h=>by
  obtain ⟨ok,ov,he⟩:=st;exact oP he h
theorem Inv.unhold {X:Cx} {pins:List (IS×Obj)} {σ:St} {H Hc:Hp} {s0 s:IG} {p:IS} {ob:Obj} {ks:List (Key×V)} (I0:Inv X pins σ H s0) (hp:H p=some (.dK ks)) (I:Inv X pins σ Hc s) (hc:Hc p=some (.frz ob (.dK ks))):Inv X pins σ (upd Hc p (.dK ks)) s:=by
 have ne:∀ b,Hc b=none->b≠p:=λ b q z=>by rw [z,hc] at q; cases q
 refine ⟨I.ok,I.os,I.bare,⟨I.base.keep,I.base.slot,λ b o q n hx=>?_,I.base.there,λ b xs q=>?_,λ b o u q=>?_,λ b ps q=>?_⟩,I.loc,I.cell,by rw [am (ne _ I.free)]; exact I.free,λ x c e=>by rw [am (ne _ (I.freeC x c e))]; exact I.freeC x c e,λ q hq=>?_,λ b o q=>?_,I.len⟩
 ·have nb:b≠p:=λ z=>by
   have:=I0.base.free b o q n hx
   rw [z,hp] at this; cases this
  rw [am nb]; exact I.base.free b o q n hx
 ·have nb:b≠p:=λ z=>by
   have:=I0.base.tups b xs q
   rw [z,hp] at this; cases this
  rw [am nb]; exact I.base.tups b xs q
 ·have nb:b≠p:=λ z=>by
   have:=I0.base.frzs b o u q
   rw [z,hp] at this; cases this
  rw [am nb]; exact I.base.frzs b o u q
 ·have nb:b≠p:=λ z=>by
   obtain ⟨m,this⟩:=I0.base.tbls b ps q;rw [z,hp] at this; cases this
  rw [am nb]; exact I.base.tbls b ps q
 ·obtain ⟨h1,h2,h3⟩:=I.pin q hq;exact ⟨h1,by rw [am (ne _ h2)]; exact h2,h3⟩
 ·have own:∀ c y,Hc c=some (.own y)->upd Hc p (.dK ks) c=some (.own y):=λ c y z=>by
   have nc:c≠p:=λ e=>by rw [e,hc] at z; cases z
   rw [am nc]; exact z
  have tup:∀ c xs,Hc c=some (.tup xs)->upd Hc p (.dK ks) c=some (.tup xs):=λ c xs z=>by
   have nc:c≠p:=λ e=>by rw [e,hc] at z; cases z
   rw [am nc]; exact z
  by_cases hb:b=p
  ·subst hb;rw [aw] at q;cases q;have z:ObjOk X.prog X.w Hc s.heap b (.frz ob (.dK ks)):=I.hok b _ hc;exact ObjOk.stay z.2 (λ _ _ _ e=>e) (λ c e=>own c _ e) tup
  ·rw [am hb] at q;exact ObjOk.stay (I.hok b o q) (λ _ _ _ e=>e) (λ c e=>own c _ e) tup
section
variable {X:Cx} {cl:Nat->IS} {elts:List Expr} {kk:Nat} {tp np ap ip cp pos:Pos} {elt:Expr} {ifs:List Expr} {scope:Scope} {N':List Str} {mp:List (Option Nat)} {ks:List Nat} {gt:TG} {t:En->Iw->Option En} {p:En->Option Bool} {f:En->Option Iw}
noncomputable def Ci (K:Iv) (i:Nat) (fld:Str):TI:=λ σ H R=>∃ a C dx fs p ob ks,σ[i]?=some (some (.ref a))/\H a=some (.ins C dx fs)/\Cls K C/\NoAttr K C fld/\fs.lookup fld=some (.ref p)/\H p=some (.frz ob (.dK ks))/\R (Iti p ob ks) H
theorem BC (i:Nat) {x fld:Str} (hN:X.N[i]?=some x) (hv:Vis X.env.scope x) (hd:(x==("__debug__" : Str))=false) (hcd:(x==("__classdict__" : Str))=false)
  (hb1:attributeBase (.Name x np) fld X.env (eval (.Name x np) X.env)=eval (.Name x np) X.env) (hb2:attributeBase (.Attribute (.Name x np) fld ap) "items" X.env (eval (.Attribute (.Name x np) fld ap) X.env)=eval (.Attribute (.Name x np) fld ap) X.env) (hline:(ip.endLine==cp.line)=true) :
  PI X (.Tuple elts kk tp) (.Call (.Attribute (.Attribute (.Name x np) fld ap) "items" ip) [] [] cp) (Ci X.K i fld):=by
 intro pins s σ H R I ⟨a,C,dx,fs,p,ob,ks,e1,e2,e3,e4,e5,e6,q⟩;refine wpAny_Call_method0_late hb2 hline (thn (yW (qM hN hv hd hcd) hb1 pins s σ H (λ v H1=>v=.ref p/\H1=H) I ⟨.ref a,e1,a,C,dx,fs,.ref p,rfl,e2,e3,e4,e5,rfl,rfl⟩) λ v s1 ⟨y,H1,I1,r1,ey,eH⟩=>?_);subst ey eH;cases r1;obtain ⟨t1,t2,t3⟩:=zf I1 (a:=p) (.inl ⟨ks,.inr ⟨ob,e6⟩⟩);obtain ⟨h1,z,y,vs,r,o2,es,ep,g,c,d,rest⟩:=(show ObjOk X.prog X.w H1 s1.heap p (.frz ob (.dK ks)) from I1.hok p _ e6);rw [h1] at g;cases g;have da:s1.heap.DictAt (eG X.prog X.w) p vs ep:=⟨ob,es,h1,c,d,rest⟩;refine ⟨"dict", "dict.items", PySem.F.plainAttrs_dict,PySem.F.slot_dict_items,PySem.F.type_dict_items,t1,t2,Calls.callWith_builtin rfl (PySem.evalArgs_none ?_)⟩;refine call_meetsIn PySem.F.slot_dict_items t1 PySem.F.entry_dict_items (PySem.F.args_dict_items_1 _) (meets_dict_items (eG X.prog X.w) p t3) ⟨⟨vs,da.dictOf⟩,?_⟩;have I2:Inv X pins σ H1 { s1 with heap:=s1.heap.push { cls:=.type "dict_items", data:=.fields #[.ref p] } }:=I1.kept (t':=s1.toks) λ b u e=>IK _ e;have hl:ks.length=vs.length:=r.length;refine wpAny_pyIter_items (s:={ s1 with heap:=s1.heap.push { cls:=.type "dict_items", data:=.fields #[.ref p] } }) ⟨_,Jf _ rfl,rfl,rfl⟩ (da.push _) ?_;refine ⟨_,[(s1.heap.push { cls:=.type "dict_items", data:=.fields #[.ref p] }).objs.size],_,Iti p ob ks,H1,rfl,I2.kept (t':=s1.toks) λ b u e=>IK _ e,yM _ p ob ks d,?_,λ b hb=>?_,q⟩
 ·exact ⟨.none,.none,by rw [hl]; exact Jf _ rfl⟩
 ·rw [Jc.mp hb];exact I2.fpOk (IF _) (I2.hok.fresh (IF _))
noncomputable def oj (xs:List (Key×Iw)):List Iw:=xs.map λ kv=>.tuple [kD kv.1,kv.2]
theorem zK {K:Iv} {F:Hp}:∀ {kvs:List (Key×Iw)} {ks:List (Key×V)} (i:Nat) {k:Key} {x:Iw},RelD K F (prs kvs) ks->kvs[i]?=some (k,x)->∃ v,ks[i]?=some (k,v)/\Rel K F x v
 | [],_,i,k,x,_,e=>by simp at e
 | (k',d)::kvs,ks,i,k,x,h,e=>by
  obtain ⟨k2,v,r,rfl,e1,h3,h4⟩:=RelD.cons_of (d:=kD k') (e:=d) (es:=prs kvs) h
  have:=Cf e1
  subst this;cases i with
  | zero =>
   have:(k',d)=(k,x):=by simpa using e
   cases this;exact ⟨v,rfl,h3⟩
  | succ i=>exact zK i h4 (by simpa using e)
theorem AS {K:Iv} {F:Hp} {p:IS} {ob:Obj} {ks:List (Key×V)} {kvs:List (Key×Iw)} (hF:F p=some (.frz ob (.dK ks))) (hr:RelD K F (prs kvs) ks):ItP K (Iti p ob ks) F (oj kvs):=λ F1 H1 i s1 s2=>by
 have hH:H1 p=some (.frz ob (.dK ks)):=s2 _ _ (s1 _ _ hF);have hl:kvs.length=ks.length:=by
  have:=congrArg List.length hr.keys
  rwa [Iy,Iy] at this
 have hlD:(oj kvs).length=kvs.length:=by unfold oj; rw [Iy]
 refine ⟨λ d e=>?_,λ e=>⟨by omega,hH⟩⟩;have hi:i < kvs.length:=by rw [<- hlD]; exact (ID.mp e).1
 obtain ⟨⟨k,x⟩,hx⟩:∃ q,kvs[i]?=some q:=⟨kvs[i],Jb hi⟩;obtain ⟨v,hv,rv⟩:=zK i hr hx;have hd:d=.tuple [kD k,x]:=by
  unfold oj at e;rw [IP,hx] at e;exact (Option.some.inj e).symm
 subst hd;refine ⟨⟨by omega,hH⟩,λ y H2 ⟨T,k',x',nT,hk',ey,eH⟩=>?_⟩;rw [hv] at hk';cases hk';subst ey eH;have fT:F1 T=none:=s2.free nT;have g2:Gr F1 H1 (upd F1 T (.tup [kV k,v])) (upd H1 T (.tup [kV k,v])):=Gr.one s2 nT;refine ⟨_,g2,iD (SqT.of aw) (.cons ?_ (.cons (Rel.mono (s1.trans g2.ff) rv) .nil))⟩;cases k with
 | inl i=>exact c6
 | inr x=>exact n5
noncomputable def DS (i:Nat) (fld:Str) (mp:List (Option Nat)) (t:En->Iw->Option En) (p:En->Option Bool) (f:En->Option Iw):MF:=λ w=>match w.η[i]? with
 | some (some (.r n))=>(match w.s[n]? with
  | some (.obj _ fs)=>(match fs.lookup fld with
   | some (.r m)=>(match w.s[m]? with
    | some (.dct kvs)=>(xh kvs).bind λ xs=>(bj mp (λ _=>some (oj xs)) t p f (vw w)).bind λ ys=>if ys.all iS=true then some (.d (.list ys),w.s) else none
    | _=>none)
   | _=>none)
  | _=>none)
 | _=>none
theorem ME.itemsC (i:Nat) {x fld:Str} (hc:X.calm=true) (ck:CompSc X scope N' mp) (ht:TgP X.K ks gt t) (hks:∀ k∈ks,mp[k]?=some none)
  (hb:∀ B s H fp,PG (cI X scope N' s H fp) (.Tuple elts kk tp) gt/\Ts (cI X scope N' s H fp) B ifs p/\E (cI X scope N' s H fp) B elt f)
  (hN:X.N[i]?=some x:=by rfl) (hv:Vis X.env.scope x:=by first | exact Or.inl rfl | exact Or.inr (Or.inl rfl) | exact Or.inr (Or.inr rfl)) (hdb:(x==("__debug__" : Str))=false:=by decide) (hcd:(x==("__classdict__" : Str))=false:=by decide)
  (hb1:attributeBase (.Name x np) fld X.env (eval (.Name x np) X.env)=eval (.Name x np) X.env:=by rfl) (hb2:attributeBase (.Attribute (.Name x np) fld ap) "items" X.env (eval (.Attribute (.Name x np) fld ap) X.env)=eval (.Attribute (.Name x np) fld ap) X.env:=by rfl) (hline:(ip.endLine==cp.line)=true:=by rfl)
  (hs:∀ y,foldedSetIterable (.Call (.Attribute (.Attribute (.Name x np) fld ap) "items" ip) [] [] cp) X.env y=pure y:=by intro _; rfl) :
  ME X cl (.ListComp elt [⟨.Tuple elts kk tp,.Call (.Attribute (.Attribute (.Name x np) fld ap) "items" ip) [] [] cp,ifs,0⟩] scope pos) (DS i fld mp t p f):=λ pins s σ H Q I ⟨θ,F,w,d,s',m,v,hf,q⟩=>by
 unfold DS at hf;split at hf
 ·rename_i n hn;split at hf
  ·rename_i k fs hob;split at hf
   ·rename_i mm hlk;split at hf
    ·rename_i kvs hdc;obtain ⟨xs,hxs,hf⟩:=ab hf;obtain ⟨ys,hys,hf⟩:=ab hf;split at hf
     ·rename_i hfl;cases hf;obtain ⟨u,hu,a,ha,rfl⟩:=v.val i _ hn;obtain ⟨c1,c2,c3,dx,xsf,c4,c5⟩:=m.cel n a _ ha hob;obtain ⟨vv,l1,pp,hp,rfl⟩:=(c5.look fld).1 _ hlk;obtain ⟨d1,kks,d2,d3⟩:=m.cel mm pp _ hp hdc;obtain ⟨z,y,vs,r,ob,es,ep,g,rest⟩:=(show ObjOk X.prog X.w H s.heap pp (.dK kks) from I.hok pp _ d2);have I':Inv X pins σ (upd H pp (.frz ob (.dK kks))) s:=I.write (t':=s.toks) (h':=s.heap) (e:=pp) (by rw [d2]; trivial) (.inl rfl) (λ _ _ _ e=>e) ⟨ob,g⟩ ⟨g,z,y,vs,r,ob,es,ep,g,rest⟩;have sn:=fu (H:=F) d1 (.frz ob (.dK kks));have smp:Same (upd F pp (.frz ob (.dK kks))) (upd H pp (.frz ob (.dK kks))):=λ b o e=>by
       by_cases hb:b=pp
       ·subst hb; rw [aw] at e ⊢; exact e
       ·rw [am hb] at e ⊢; exact m.sm b o e
      have sr0:=m.vw v;have srp:SR X.K ⟨upd F pp (.frz ob (.dK kks)),upd H pp (.frz ob (.dK kks))⟩ (upd F pp (.frz ob (.dK kks))) (upd H pp (.frz ob (.dK kks))) σ (vw w):=by
       refine ⟨.refl smp,⟨sr0.en.len,λ j dd e=>?_,λ j sl e ho=>?_,λ j j' sl sl' e e' ho ho' hne=>?_,λ j ff e=>?_⟩⟩
       ·obtain ⟨vv,q1,q2⟩:=sr0.en.val j dd e;exact ⟨vv,q1,Rel.mono sn q2⟩
       ·obtain ⟨b,o,q1,q2,q3,q4,q5⟩:=sr0.en.cel j sl e ho;have q3:H b=none:=q3;rw [q3] at q4; cases q4
       ·obtain ⟨b,o,q1,q2,q3,q4,q5⟩:=sr0.en.cel j sl e ho;have q3:H b=none:=q3;rw [q3] at q4; cases q4
       ·obtain ⟨b,C,dx',xs',q1,q2,q3,q4⟩:=sr0.en.obs j ff e;have nb:b≠pp:=λ z=>by rw [z,d2] at q2; cases q2
        refine ⟨b,C,dx',xs',q1,by rw [am nb]; exact q2,q3,λ f' d' hf'=>?_⟩;obtain ⟨w1,w2,w3,w4⟩:=q4 f' d' hf';exact ⟨w1,w2,w3,Rel.mono sn w4⟩
      have rd:RelD X.K (upd F pp (.frz ob (.dK kks))) (prs xs) kks:=(yr d3 hxs).mono sn;have tc:zF mp (Ci X.K i fld) gt (tT X.K ⟨upd F pp (.frz ob (.dK kks)),upd H pp (.frz ob (.dK kks))⟩ p) (tE X.K ⟨upd F pp (.frz ob (.dK kks)),upd H pp (.frz ob (.dK kks))⟩ f) σ (upd H pp (.frz ob (.dK kks)))
        (λ x Hc=>∃ D xs' Fc,x=.ref D/\Gr (upd F pp (.frz ob (.dK kks))) (upd H pp (.frz ob (.dK kks))) Fc Hc/\upd H pp (.frz ob (.dK kks)) D=none/\Hc D=some (.lst xs')/\RelL X.K Fc ys xs'):=by
       obtain ⟨F1,η1,ds,sr1,hds,k1⟩:=uu ht hks σ (upd H pp (.frz ob (.dK kks))) _ (show tO X.K ⟨upd F pp (.frz ob (.dK kks)),upd H pp (.frz ob (.dK kks))⟩ (bj mp (λ _=>some (oj xs)) t p f) σ (upd H pp (.frz ob (.dK kks))) (λ x Hc=>∃ D xs' Fc,x=.ref D/\Gr (upd F pp (.frz ob (.dK kks))) (upd H pp (.frz ob (.dK kks))) Fc Hc/\upd H pp (.frz ob (.dK kks)) D=none/\Hc D=some (.lst xs')/\RelL X.K Fc ys xs') from ⟨_,_,ys,srp,hys,λ D xs' Fc Hc g hD fD hcD rl=>⟨D,xs',Fc,rfl,g,hD,hcD,rl⟩⟩);cases hds;refine ⟨a,_,dx,xsf,pp,ob,kks,hu,by rw [am (λ z=>by rw [z,d2] at c4; cases c4)]; exact c4,c2,c3 _ (u6 hlk),l1,aw,k1 (Iti pp ob kks) F1 _ (.refl sr1.same) (AS (sr1.gr.ff _ _ aw) (rd.mono sr1.gr.ff))⟩
      refine thn (zQ hc ck (BC i hN hv hdb hcd hb1 hb2 hline) (λ s H fp=>hb _ s H fp) hs pins s σ _ _ I' tc) λ v1 s1 ⟨x1,Hc,Ic,rx,D,xs',Fc,ex,gc,hD,hcD,rl⟩=>?_;have hcp:Hc pp=some (.frz ob (.dK kks)):=gc.hh _ _ aw;have If:=Inv.unhold I d2 Ic hcp;have nD:D≠pp:=λ z=>by rw [z,aw] at hD; cases hD
      have hDH:H D=none:=by rw [am nD] at hD; exact hD
      have hDf:upd Hc pp (.dK kks) D=some (.lst xs'):=by rw [am nD]; exact hcD
      have gg:Gr F H F (upd Hc pp (.dK kks)):=by
       have hh:Same H (upd Hc pp (.dK kks)):=λ b o e=>by
        by_cases hb:b=pp
        ·subst hb; rw [d2] at e; cases e; exact aw
        ·rw [am hb]; exact gc.hh b o (by rw [am hb]; exact e)
       exact ⟨.refl _,hh,m.sm.trans hh,λ b q=>.inl q⟩
      obtain ⟨g2,r2⟩:=Ab (F:=F) (F':=F) m.sm gg hDH (m.sm.free hDH) hDf (wo hfl rl);subst ex;exact ⟨.ref D,_,If,rx,q _ θ _ _ (Jj _) g2.ff (m.grow g2) r2⟩
     ·cases hf
    ·cases hf
   ·cases hf
  ·cases hf
 ·cases hf
end
noncomputable def DW (o g:MF):MF:=λ w=>(o w).bind λ r=>(g ⟨w.η,r.2⟩).bind λ q=>match r.1,q.1 with
 | .r n,.d x=>(u8 x).bind λ k=>(match q.2[n]? with
  | some (.dct kvs)=>(bE kvs k).bind λ d=>some (d,q.2)
  | _=>none)
 | _,_=>none
noncomputable def zb (neg:Bool) (g o:MF):MTF:=λ w=>(g w).bind λ r=>(o ⟨w.η,r.2⟩).bind λ q=>match r.1,q.1 with
 | .d x,.r n=>(u8 x).bind λ k=>(match q.2[n]? with
  | some (.dct kvs)=>some (if neg then !(bE kvs k).isSome else (bE kvs k).isSome,q.2)
  | _=>none)
 | _,_=>none
noncomputable def wf (kvs:List (Key×D)) (k:Key) (d:D):List (Key×D):=if (kvs.any λ kv=>decide (kv.1=k))=true then kvs.map (λ kv=>if kv.1=k then (kv.1,d) else kv) else kvs++[(k,d)]
noncomputable def zk (kvs:List (Key×D)) (k:Key):List (Key×D):=kvs.filter λ kv=>decide (kv.1≠k)
noncomputable def z9 (o g e:MF):Wd->Option MOut:=λ w=>(e w).bind λ r=>(o ⟨w.η,r.2⟩).bind λ q=>(g ⟨w.η,q.2⟩).bind λ z=>match q.1,z.1 with
 | .r n,.d x=>(u8 x).bind λ k=>(match z.2[n]? with
  | some (.dct kvs)=>if kvs.length < IB then some (.nx ⟨w.η,z.2.set n (.dct (wf kvs k r.1))⟩) else none
  | _=>none)
 | _,_=>none
noncomputable def EU (o g:MF):MF:=λ w=>(o w).bind λ r=>match r.1 with
 | .r n=>(match r.2[n]? with
  | some (.dct _)=>(g ⟨w.η,r.2⟩).bind λ q=>match q.1 with
   | .d x=>(u8 x).bind λ k=>(match q.2[n]? with
    | some (.dct kvs)=>(bE kvs k).bind λ d=>some (d,q.2.set n (.dct (zk kvs k)))
    | _=>none)
   | _=>none
  | _=>none)
 | _=>none
noncomputable def Aa (k:Nat) (nm:Str) (o e:MF):Wd->Option MOut:=λ w=>(o w).bind λ r=>match r.1 with
 | .r n=>(match r.2[n]? with
  | some (.obj k' fs)=>if k'=k then (match fs.lookup nm with
   | some (.d (.int i))=>(e ⟨w.η,r.2⟩).bind λ q=>match q.1 with
    | .d (.int j)=>(match q.2[n]? with
     | some (.obj k2 fs2)=>if k2=k/\fs2.length < 999 then some (.nx ⟨w.η,q.2.set n (.obj k (sq nm (.d (.int (i+j))) fs2))⟩) else none
     | _=>none)
    | _=>none
   | _=>none) else none
  | _=>none)
 | _=>none
theorem Ej {K:Iv} {θ:List IS} {F:Hp} {kvs:List (Key×D)} {vs:List (Key×V)} (h:DRk K θ F kvs vs) (k:Key):(kvs.any λ kv=>decide (kv.1=k))=vs.any λ kv=>decide (kv.1=k):=by
 induction h with
 | nil=>rfl
 | cons r t ih=>rw [JN,JN,ih,r.1]
theorem Ei {K:Iv} {θ:List IS} {F:Hp} {kvs:List (Key×D)} {vs:List (Key×V)} (h:DRk K θ F kvs vs) (k:Key) {d:D} {v:V} (r:DR K θ F d v):DRk K θ F (kvs.map λ kv=>if kv.1=k then (kv.1,d) else kv) (vs.map λ kv=>if kv.1=k then (kv.1,v) else kv):=by
 induction h with
 | nil=>exact .nil
 | @cons a b as bs q t ih =>
  refine .cons ?_ ih;dsimp only;by_cases hk:a.1=k
  ·rw [if_pos hk,if_pos (by rw [<- q.1]; exact hk)];exact ⟨q.1,r⟩
  ·rw [if_neg hk,if_neg (by rw [<- q.1]; exact hk)];exact q
theorem Eh {K:Iv} {θ:List IS} {F:Hp} {kvs:List (Key×D)} {vs:List (Key×V)} (h:DRk K θ F kvs vs) (k:Key) {d:D} {v:V} (r:DR K θ F d v):DRk K θ F (wf kvs k d) (qc vs k v):=by
 unfold wf qc;rw [Ej h k]
 split
 ·exact Ei h k r
 ·exact tz h (.cons ⟨rfl,r⟩ .nil)
theorem Cu {K:Iv} {θ:List IS} {F:Hp} {kvs:List (Key×D)} {vs:List (Key×V)} (h:DRk K θ F kvs vs) (k:Key):DRk K θ F (zk kvs k) (vt vs k):=by
 unfold zk vt
 induction h with
 | nil=>exact .nil
 | @cons a b as bs q t ih =>
  rw [JX,JX];have e:decide (b.1≠k)=decide (a.1≠k):=by rw [<- q.1]
  rw [e]
  split
  ·exact .cons q ih
  ·exact ih
theorem key_of' {K:Iv} {F:Hp} {x:Iw} {k:Key} {u:V} (hk:u8 x=some k) (r:Rel K F x u):u=kV k:=by
 cases x <;> simp only [u8,Option.some.injEq,reduceCtorEq] at hk
 ·subst hk; exact (show Rel K F (.int _) u from r).int
 ·subst hk; exact (show Rel K F (.str _) u from r).str
theorem yn {K:Iv} {θ:List IS} {F:Hp} {kvs:List (Key×D)} {vs:List (Key×V)} (h:DRk K θ F kvs vs) (k:Key):(lX vs k).isSome=(bE kvs k).isSome:=by
 cases l:bE kvs k with
 | some d=>obtain ⟨v,e1,_⟩:=(h.look k).1 d l; rw [e1]; rfl
 | none=>rw [(h.look k).2 l]; rfl
section
variable {X:Cx} {cl:Nat->IS} {o e i value:Expr} {f g h:MF} {pos pos' tpos apos cpos:Pos}
theorem ME.atC {k:Nat} (hr:Room k X.A) (ho:ME X cl o f) (hi:ME X cl e g) (hs:Gt e:=by intro _ _; rfl):ME X cl (.Subscript o e pos) (DW f g):=PE.imp (DA (Room.one hr) ho hi hs) λ σ H Q ⟨θ,F,w,d,s',m,v,hf,q⟩=>by
 obtain ⟨⟨d1,s1⟩,h1,hf⟩:=ab hf;obtain ⟨⟨d2,s2⟩,h2,hf⟩:=ab hf;dsimp only at hf;split at hf
 ·rename_i _ n x _;obtain ⟨k,hk,hf⟩:=ab hf;split at hf
  ·rename_i kvs hc;obtain ⟨d3,hl,hf⟩:=ab hf;cases hf;refine ⟨θ,F,w,_,s1,m,v,h1,λ u θ1 F1 H1 p1 q1 m1 r1=>⟨θ1,F1,⟨w.η,s1⟩,_,_,m1,v.mono p1 q1,h2,λ u2 θ2 F2 H2 p2 q2 m2 r2=>?_⟩⟩;obtain ⟨ad,z1,rfl⟩:=r1;have z3:=jD p2 z1;obtain ⟨w5,ks,w6,w7⟩:=m2.cel n ad _ z3 hc;obtain ⟨v',e1,e2⟩:=(w7.look k).1 _ hl;exact ⟨ad,v',rfl,.inl ⟨ks,k,.inl w6,key_of' hk r2,e1.symm⟩,q _ θ2 F2 H2 (p1.trans p2) (q1.trans q2) m2 e2⟩
  ·cases hf
 ·cases hf
theorem MT.inC {k:Nat} (hr:Room k X.A) (hi:ME X cl e g) (ho:ME X cl o f) (hm:Jz .In o=false:=by with_unfolding_all rfl):MT X cl (.Compare e [.In] [o] pos) (zb false g f):=PT.imp (By (FH (Room.one hr) hi ho) hm) λ σ H Q ⟨θ,F,w,b,s',m,v,hf,q⟩=>by
 obtain ⟨⟨d1,s1⟩,h1,hf⟩:=ab hf;obtain ⟨⟨d2,s2⟩,h2,hf⟩:=ab hf;dsimp only at hf;split at hf
 ·rename_i _ x n _;obtain ⟨k,hk,hf⟩:=ab hf;split at hf
  ·rename_i kvs hc;cases hf;refine ⟨θ,F,w,_,s1,m,v,h1,λ u θ1 F1 H1 p1 q1 m1 r1=>⟨θ1,F1,⟨w.η,s1⟩,_,_,m1,v.mono p1 q1,h2,λ u2 θ2 F2 H2 p2 q2 m2 r2=>?_⟩⟩;obtain ⟨ad,z1,rfl⟩:=r2;obtain ⟨w5,ks,w6,w7⟩:=m2.cel n ad _ z1 hc;refine ⟨ad,_,rfl,.inl ⟨ks,k,.inl w6,key_of' hk r1,rfl⟩,_,rfl,?_⟩;rw [yn w7];exact q θ2 F2 H2 (p1.trans p2) (q1.trans q2) m2
  ·cases hf
 ·cases hf
theorem MT.notInC {k:Nat} (hr:Room k X.A) (hi:ME X cl e g) (ho:ME X cl o f) (hm:Jz .NotIn o=false:=by with_unfolding_all rfl):MT X cl (.Compare e [.NotIn] [o] pos) (zb true g f):=PT.imp (By (AF (Room.one hr) hi ho) hm) λ σ H Q ⟨θ,F,w,b,s',m,v,hf,q⟩=>by
 obtain ⟨⟨d1,s1⟩,h1,hf⟩:=ab hf;obtain ⟨⟨d2,s2⟩,h2,hf⟩:=ab hf;dsimp only at hf;split at hf
 ·rename_i _ x n _;obtain ⟨k,hk,hf⟩:=ab hf;split at hf
  ·rename_i kvs hc;cases hf;refine ⟨θ,F,w,_,s1,m,v,h1,λ u θ1 F1 H1 p1 q1 m1 r1=>⟨θ1,F1,⟨w.η,s1⟩,_,_,m1,v.mono p1 q1,h2,λ u2 θ2 F2 H2 p2 q2 m2 r2=>?_⟩⟩;obtain ⟨ad,z1,rfl⟩:=r2;obtain ⟨w5,ks,w6,w7⟩:=m2.cel n ad _ z1 hc;refine ⟨ad,_,rfl,.inl ⟨ks,k,.inl w6,key_of' hk r1,rfl⟩,_,rfl,?_⟩;rw [yn w7];exact q θ2 F2 H2 (p1.trans p2) (q1.trans q2) m2
  ·cases hf
 ·cases hf
theorem MS.putC {k:Nat} (hr:Room k X.A) (ho:ME X cl o f) (hi:ME X cl e g) (hv:ME X cl value h) (hs:swapsWith value (some (.Subscript o e pos')) pos.line X.env=pure false:=by rfl):MS X cl (.Assign [.Subscript o e pos'] value pos) (z9 f g h):=PS.imp (Du (Room.one hr) ho hi hv hs) λ Z σ H ⟨θ,F,w,out,m,v,hf,q⟩=>by
 obtain ⟨⟨d1,s1⟩,h1,hf⟩:=ab hf;obtain ⟨⟨d2,s2⟩,h2,hf⟩:=ab hf;obtain ⟨⟨d3,s3⟩,h3,hf⟩:=ab hf;dsimp only at hf;split at hf
 ·rename_i _ n x _;obtain ⟨k,hk,hf⟩:=ab hf;split at hf
  ·rename_i kvs hc;split at hf
   ·rename_i hl;cases hf;refine ⟨θ,F,w,_,s1,m,v,h1,λ u θ1 F1 H1 p1 q1 m1 r1=>⟨θ1,F1,⟨w.η,s1⟩,_,s2,m1,v.mono p1 q1,h2,λ u2 θ2 F2 H2 p2 q2 m2 r2=>⟨θ2,F2,⟨w.η,s2⟩,_,s3,m2,v.mono (p1.trans p2) (q1.trans q2),h3,λ u3 θ3 F3 H3 p3 q3 m3 r3=>?_⟩⟩⟩;obtain ⟨ad,z1,rfl⟩:=r2;have z3:=jD p3 z1;obtain ⟨w5,ks,w6,w7⟩:=m3.cel n ad _ z3 hc;have hll:ks.length < IB:=by rw [<- jp w7]; exact hl
    refine ⟨ad,_,rfl,.inl ⟨ks,k,w6,key_of' hk r3,hll,rfl⟩,?_⟩;exact q σ θ3 F3 _ (p1.trans (p2.trans p3)) (q1.trans (q2.trans q3)) (m3.put z3 hc rfl ⟨w5,_,aw,Eh w7 k (r1.mono (p2.trans p3) (q2.trans q3))⟩) (v.mono (p1.trans (p2.trans p3)) (q1.trans (q2.trans q3)))
   ·cases hf
  ·cases hf
 ·cases hf
theorem ME.popC (ho:ME X cl o f) (he:ME X cl e g) (mm:M1 X o "pop" apos e cpos:=by exact ⟨rfl,rfl,rfl,rfl⟩):ME X cl (.Call (.Attribute o "pop" apos) [e] [] cpos) (EU f g):=PE.imp (BK ho he mm) λ σ H Q ⟨θ,F,w,d,s',m,v,hf,q⟩=>by
 obtain ⟨⟨d1,s1⟩,h1,hf⟩:=ab hf;cases d1 with
 | d x=>cases hf
 | r n =>
  dsimp only at hf;split at hf
  ·rename_i kv0 hc0;obtain ⟨⟨d2,s2⟩,h2,hf⟩:=ab hf;cases d2 with
   | r n2=>cases hf
   | d x =>
    dsimp only at hf;obtain ⟨k,hk,hf⟩:=ab hf;split at hf
    ·rename_i kvs hc;obtain ⟨d3,hl,hf⟩:=ab hf;cases hf;refine ⟨θ,F,w,_,s1,m,v,h1,λ u θ1 F1 H1 p1 q1 m1 r1=>?_⟩;obtain ⟨ad,z1,rfl⟩:=r1;obtain ⟨w1,ks0,w3,w4⟩:=m1.cel n ad _ z1 hc0;refine ⟨ad,rfl,.inl ⟨ks0,.inl w3⟩,θ1,F1,⟨w.η,s1⟩,.d x,s2,m1,v.mono p1 q1,h2,λ u2 θ2 F2 H2 p2 q2 m2 r2=>?_⟩;have z3:=jD p2 z1;obtain ⟨w5,ks,w6,w7⟩:=m2.cel n ad _ z3 hc;obtain ⟨v',e1,e2⟩:=(w7.look k).1 _ hl;exact ⟨ks,k,v',w6,key_of' hk r2,e1,q _ θ2 F2 _ (p1.trans p2) (q1.trans q2) (m2.put z3 hc rfl ⟨w5,_,aw,Cu w7 k⟩) e2⟩
    ·cases hf
  ·cases hf
theorem MS.augF {k:Nat} {nm:Str} (ho:ME X cl o f) (he:ME X cl e g) (hn:NoAttr X.K (cl k) nm):MS X cl (.AugAssign (.Attribute o nm tpos) .Add e pos) (Aa k nm f g):=PS.imp (AB ho he F0) λ Z σ H ⟨θ,F,w,out,m,v,hf,q⟩=>by
 obtain ⟨⟨d1,s1⟩,h1,hf⟩:=ab hf;cases d1 with
 | d x=>cases hf
 | r n =>
  dsimp only at hf;split at hf
  ·rename_i k' fs hc;split at hf
   ·rename_i hk;subst hk;split at hf
    ·rename_i i hl;obtain ⟨⟨d2,s2⟩,h2,hf⟩:=ab hf;dsimp only at hf;split at hf
     ·rename_i j;split at hf
      ·rename_i k2 fs2 hc2;split at hf
       ·rename_i hk2;obtain ⟨hk2,hlen⟩:=hk2;subst hk2;cases hf;refine ⟨θ,F,w,_,s1,m,v,h1,λ u θ1 F1 H1 p1 q1 m1 r1=>?_⟩;obtain ⟨ad,z1,rfl⟩:=r1;obtain ⟨c1,c2,c3,dx,xs,c4,c5⟩:=m1.cel n ad _ z1 hc;obtain ⟨vv,l1,l2⟩:=(c5.look nm).1 _ hl;have l2':Rel X.K F1 (.int i) vv:=l2;refine ⟨ad,_,dx,xs,vv,rfl,c4,c2,hn,l1,θ1,F1,⟨w.η,s1⟩,_,s2,m1,v.mono p1 q1,h2,λ u2 θ2 F2 H2 p2 q2 m2 r2=>?_⟩;have r2':Rel X.K F2 (.int j) u2:=r2;refine ⟨i,j,l2'.int,r2'.int,?_⟩;have z3:=jD p2 z1;obtain ⟨e1,e2,e3,dx2,xs2,e4,e5⟩:=m2.cel n ad _ z3 hc2;have hll:xs2.length < 1000:=by
         have:=Paired.length e5
         omega
        refine ⟨dx2,xs2,e4,hll,q σ θ2 F2 _ (p1.trans p2) (q1.trans q2) (m2.put z3 hc2 rfl ⟨e1,e2,λ f' hf'=>?_,dx2,_,aw,e5.put nm (show DR X.K θ2 F2 (.d (.int (i+j))) (.int (i+j)) from (c6:Rel X.K F2 (.int (i+j)) (.int (i+j))))⟩) (v.mono (p1.trans p2) (q1.trans q2))⟩;rcases so hf' with z | z
        ·rw [z]; exact hn
        ·exact e3 f' z
       ·cases hf
      ·cases hf
     ·cases hf
    ·cases hf
   ·cases hf
  ·cases hf
end
section
variable {X:Cx} {cl:Nat->IS} {a b c e o st:Expr} {es:List Expr} {sts:List Stmt} {f g h:MF} {fs:MFs} {p:MTF} {u:Wd->Option MOut} {pos p2 pp:Pos}
noncomputable def keyIs':List (Key×D)->Option (List Int)
 | []=>some []
 | (.inl n,_)::r=>(keyIs' r).bind λ l=>some (n::l)
 | _=>none
theorem u9:∀ {kvs:List (Key×D)} {ns:List Int},keyIs' kvs=some ns->kvs.map (·.1)=ns.map Sum.inl
 | [],_,h=>by cases h; rfl
 | (.inl n,_)::r,_,h=>by
  obtain ⟨l,h1,h2⟩:=ab h;cases h2;rw [IN,IN,u9 h1]
 | (.inr _,_)::r,_,h=>by cases h
end
end L2.PU
namespace L2.PU
open PySem  PySem.Spec PyProof.Rows
noncomputable def sH (i L:Nat) (body:Wd->Option MOut):Nat->Nat->Wd->Option MOut
 | 0,_,_=>none
 | n+1,k,w=>match w.s[L]? with
  | some (.lst ds)=>(match ds[k]? with
   | none=>some (.nx w)
   | some d=>(body ⟨w.η.set i (some d),w.s⟩).bind λ o=>match o with
    | .nx w2=>sH i L body n (k+1) w2
    | .ct w2=>sH i L body n (k+1) w2
    | .bk w2=>some (.nx w2)
    | .rt d s=>some (.rt d s))
  | _=>none
noncomputable def B5 (i n:Nat) (f:MF) (body:Wd->Option MOut):Wd->Option MOut:=λ w=>(f w).bind λ r=>match r.1 with
 | .r L=>sH i L body n 0 ⟨w.η,r.2⟩
 | _=>none
section
variable {X:Cx} {cl:Nat->IS} {tg iter:Expr} {f:MF} {pos:Pos}
theorem MS.forD (n:Nat) {i:Nat} {body:List Stmt} {u:Wd->Option MOut} (hp:PassesOwn (Jt X.prog X.w) X.A X.env X.xe) (hc:X.calm=true) (he:ME X cl iter f) (hg:PG X tg (vm i)) (hb:MSs X cl body u)
  (hs:∀ x,foldedSetIterable iter X.env x=pure x:=by intro _; rfl):MS X cl (.For tg iter body [] pos) (B5 i n f u):=PS.imp (yT hp hc (wM he) hg hb hs) λ Z σ H ⟨θ,F,w,o,m,v,hf,q⟩=>by
 obtain ⟨⟨d,s1⟩,h1,hd⟩:=ab hf;cases d with
 | d x=>cases hd
 | r L =>
 dsimp only at hd;refine ⟨θ,F,w,_,s1,m,v,h1,λ y θ1 F1 H1 p1 q1 m1 r1=>?_⟩;obtain ⟨a,e1,rfl⟩:=r1;have nn:n≠0:=λ z=>by rw [z] at hd; cases hd
 refine ⟨a,rfl,?_,λ k j σ H=>∃ θc Fc wc,θ1<+:θc/\Same F1 Fc/\MR X.K cl θc Fc H wc.s/\MV X.K θc Fc σ wc.η/\sH i L u j k wc=some o,⟨n,θ1,F1,⟨w.η,s1⟩,Jj _,.refl _,m1,v.mono p1 q1,hd⟩,?_⟩
 ·cases n with
  | zero=>exact absurd rfl nn
  | succ n =>
   unfold sH at hd;split at hd
   ·rename_i ds hc';obtain ⟨_,xs,w3,_⟩:=m1.cel L a _ e1 hc';exact ⟨xs,SqL.of w3⟩
   ·cases hd
 ·rintro k j σc Hc ⟨θc,Fc,wc,pc,sc,mc,vc,hgo⟩
  cases j with
  | zero=>cases hgo
  | succ j =>
   unfold sH at hgo;split at hgo
   ·rename_i ds hL;obtain ⟨_,xs,w3,w4⟩:=mc.cel L a _ (jD pc e1) hL;have hlx:=jp w4;split at hgo
    ·rename_i hk;cases hgo;refine .inl ⟨⟨xs,SqL.of w3,?_⟩,q σc θc Fc Hc (p1.trans pc) (q1.trans sc) mc vc⟩;rw [<- hlx];exact List.getElem?_eq_none_iff.mp hk
    ·rename_i d hk;obtain ⟨x,ex,rx⟩:=w4.get hk;obtain ⟨o1,e2,hgo⟩:=ab hgo;refine .inr ⟨⟨xs,x,SqL.of w3,ex⟩,λ σ' H'=>∃ m',m' < j+1/\∃ θc Fc wc,θ1<+:θc/\Same F1 Fc/\MR X.K cl θc Fc H' wc.s/\MV X.K θc Fc σ' wc.η/\sH i L u m' (k+1) wc=some o,λ σ' H' z=>z,λ x' H' y=>?_⟩;obtain ⟨rfl,y⟩:=y;have z:=y xs (SqL.of w3);rw [ex] at z;cases z;refine ⟨θc,Fc,⟨wc.η.set i (some d),wc.s⟩,o1,mc,vc.set i rx,e2,?_⟩;cases o1 with
     | nx w2=>exact λ σ' θ' F' H' p' s' m' v'=>⟨j,Kc _,θ',F',w2,pc.trans p',sc.trans s',m',v',hgo⟩
     | ct w2=>exact λ σ' θ' F' H' p' s' m' v'=>⟨j,Kc _,θ',F',w2,pc.trans p',sc.trans s',m',v',hgo⟩
     | bk w2 =>
      cases hgo;exact λ σ' θ' F' H' p' s' m' v'=>q σ' θ' F' H' (p1.trans (pc.trans p')) (q1.trans (sc.trans s')) m' v'
     | rt d s2 =>
      cases hgo;exact λ u θ' F' H' p' s' m' r'=>q u θ' F' H' (p1.trans (pc.trans p')) (q1.trans (sc.trans s')) m' r'
   ·cases hgo
end
end L2.PU
namespace K26
open PySem L2 L2.PU
abbrev DFn:=List D->Sto->Option (D×Sto)
abbrev PFn:=List Iw->Option Iw
noncomputable def top (i:Nat):Stmt:=PySem.Challenge.pw_touchtree_k26_whole_sent.main.body.getD i (.Pass ⟨0,0,0,0⟩)
noncomputable abbrev o9:Stmt:=top 53
noncomputable abbrev oy:Stmt:=top 54
noncomputable abbrev gT:Stmt:=top 55
noncomputable abbrev lg:Stmt:=cN (top 51) 0
noncomputable abbrev tw:Stmt:=top 14
noncomputable abbrev oA:Stmt:=cN (top 51) 2
noncomputable abbrev kJ:Stmt:=cN (top 41) 0
noncomputable abbrev k9:Stmt:=cN (top 40) 0
noncomputable abbrev k8:Stmt:=cN (top 41) 1
noncomputable abbrev jC:Stmt:=cN (top 40) 1
noncomputable abbrev m9:Stmt:=top 16
noncomputable abbrev uH:Stmt:=top 17
noncomputable abbrev rm:Stmt:=top 18
noncomputable abbrev rj:Stmt:=top 15
noncomputable abbrev qr:Stmt:=top 26
noncomputable abbrev m8:Stmt:=top 30
noncomputable abbrev jB:Stmt:=top 19
noncomputable abbrev ro:Stmt:=top 28
noncomputable abbrev o7:Stmt:=top 29
noncomputable abbrev mK:Stmt:=top 31
noncomputable abbrev o8:Stmt:=top 27
noncomputable abbrev qt:Stmt:=top 32
noncomputable abbrev xL:Stmt:=top 33
noncomputable abbrev qq:Stmt:=top 34
noncomputable abbrev tu:Stmt:=top 39
noncomputable abbrev jb:Stmt:=cN (top 40) 2
noncomputable abbrev kh:Stmt:=cN (top 41) 2
noncomputable abbrev nB:Stmt:=cN (top 41) 3
noncomputable abbrev mL:Stmt:=cN (top 40) 3
noncomputable abbrev nC:Stmt:=cN (top 40) 4
noncomputable abbrev pe:Stmt:=cN (top 41) 4
noncomputable abbrev oz:Stmt:=top 59
noncomputable abbrev n4:Stmt:=top 13
noncomputable abbrev nF:Stmt:=cN (top 51) 1
noncomputable abbrev jo:Stmt:=cN (top 51) 4
noncomputable abbrev mM:Stmt:=cN (top 51) 3
noncomputable abbrev l6:Stmt:=cN (top 51) 11
noncomputable abbrev mG:Stmt:=cN (top 51) 12
noncomputable abbrev l8:Stmt:=cN (top 51) 10
noncomputable abbrev nE:Stmt:=cN (top 51) 9
noncomputable abbrev kK:Stmt:=cN (top 51) 8
noncomputable abbrev f6:Stmt:=cN (top 51) 7
noncomputable abbrev j2:Stmt:=cN (top 50) 0
noncomputable abbrev oB:Stmt:=cN (top 51) 6
noncomputable abbrev we:Stmt:=top 42
noncomputable abbrev l5:Stmt:=top 60
structure Adr where
 (C_Hand C_Hands C_Course C_Hall fb d5 d4 bZ iA d8 bJ bX bW bu fW jt gM gK fU fR gP gN e7 iy e9 fV mD fS iz d7 dr dt cS du fc d6 gO dz cu cT bh bq cv dw bK bY bC d9 kx nW:IS)
 (eY dU dS bV iw dY bH bS bR br fQ js gF gE fO fM gI gG eW ir eX fP mw fN iu dX di dj cQ dk eZ dW gH dq cq cR bg bp cr dm bI bU bB dZ ku nV:Jx)
 (t_AROUND t_BOX_halls t_BOX_hands t_CUTS_OFF t_DEEDS t_HEIGHT t_HIDDEN t_IS_DOWN t_IS_ONCE t_LEFT t_LETS_BY t_LONGEST_DOUBLE t_MARKS t_NAME t_TOP t_WIDTH t_WORD_halls t_WORD_hands:Tok)
noncomputable abbrev ii:List Str:=["_law_script", "_law_k"]
noncomputable abbrev gW:List Str:=["_law_script", "_law_k", "_law_many"]
noncomputable abbrev gU:List Str:=["_law_script", "_law_at"]
noncomputable abbrev eB:List Str:=["self", "scene"]
noncomputable abbrev kN:List Str:=["scene", "name"]
noncomputable abbrev gZ:List Str:=["self", "name", "word", "is_down", "deeds", "is_once"]
noncomputable abbrev dJ:List Str:=["self", "scene"]
noncomputable abbrev ez:List Str:=["self"]
noncomputable abbrev eu:List Str:=["self", "hand"]
noncomputable abbrev cM:List Str:=["self", "word"]
noncomputable abbrev i6:List Str:=["scene", "name"]
noncomputable abbrev l9:List Str:=["scene", "name"]
noncomputable abbrev jG:List Str:=["scene"]
noncomputable abbrev jF:List Str:=["scene", "name"]
noncomputable abbrev i4:List Str:=["scene", "name", "mark"]
noncomputable abbrev i0:List Str:=["scene", "name"]
noncomputable abbrev jJ:List Str:=["scene", "name"]
noncomputable abbrev jH:List Str:=["one", "other"]
noncomputable abbrev ie:List Str:=["scene", "name"]
noncomputable abbrev kL:List Str:=["scene"]
noncomputable abbrev ig:List Str:=["area", "x", "y"]
noncomputable abbrev i5:List Str:=["rows", "x", "y"]
noncomputable abbrev pf:List Str:=["scene", "x", "y"]
noncomputable abbrev i3:List Str:=["scene", "x", "y"]
noncomputable abbrev kM:List Str:=["one", "other"]
noncomputable abbrev gY:List Str:=["self", "path"]
noncomputable abbrev gk:List Str:=["self", "hand", "moment", "x", "y"]
noncomputable abbrev gl:List Str:=["self", "hand", "moment", "x", "y"]
noncomputable abbrev fw:List Str:=["self", "path"]
noncomputable abbrev gm:List Str:=["self", "name", "moment"]
noncomputable abbrev ij:List Str:=["self", "hand", "moment", "x", "y"]
noncomputable abbrev gX:List Str:=["_law_hands", "_law_way", "_law_number", "_law_moment", "_law_x", "_law_y"]
noncomputable abbrev jI:List Str:=["scene", "name"]
noncomputable abbrev gp:List Str:=["self"]
noncomputable abbrev eS:List Str:=["self", "name", "word", "is_down"]
noncomputable abbrev fA:List Str:=["self", "number"]
noncomputable abbrev eQ:List Str:=["self", "number"]
noncomputable abbrev fo:List Str:=["self", "deed", "course"]
noncomputable abbrev eT:List Str:=["self", "deed", "course"]
noncomputable abbrev gn:List Str:=["self", "number", "course"]
noncomputable abbrev dL:List Str:=["self", "box", "is_down", "course"]
noncomputable abbrev eA:List Str:=["self", "name", "course"]
noncomputable abbrev de:List Str:=["self", "word", "depth", "told"]
noncomputable abbrev g0:List Str:=["self", "name", "word"]
noncomputable abbrev nG:List Str:=["hall", "rows"]
structure Tx (K:Iv) (mg:Str->Option IE) (t:Adr):Prop where
 mg_Hand:mg "Hand" = some (.ref t.C_Hand)
 mg_Hands:mg "Hands" = some (.ref t.C_Hands)
 mg_Course:mg "Course" = some (.ref t.C_Course)
 mg_Hall:mg "Hall" = some (.ref t.C_Hall)
 mk_Hand:Mk K t.C_Hand t.bX
 mk_Hands:Mk K t.C_Hands t.bJ
 mk_Course:Mk K t.C_Course t.bC
 mk_Hall:Mk K t.C_Hall t.bZ
 u0:mg "_law_cell" = some (.ref t.fb)
 ci:mg "_law_drawn" = some (.ref t.d5)
 t5:mg "_law_scene" = some (.ref t.d4)
 jv:mg "box_of" = some (.ref t.iA)
 sD:Meth K t.C_Hall "hear" t.d8
 ik:Meth K t.C_Hands "hand_of" t.bW
 gq:Meth K t.C_Hand "tell_holder" t.bu
 qu:mg "children" = some (.ref t.fW)
 uZ:mg "below" = some (.ref t.jt)
 wW:mg "painted" = some (.ref t.gM)
 fB:mg "path_of" = some (.ref t.gK)
 ni:mg "has_mark" = some (.ref t.fU)
 vU:mg "is_shown" = some (.ref t.fR)
 rM:mg "area_of" = some (.ref t.gP)
 wX:mg "overlap" = some (.ref t.gN)
 uX:mg "window_of" = some (.ref t.e7)
 ya:mg "takers" = some (.ref t.iy)
 uY:mg "has_point" = some (.ref t.e9)
 vV:mg "first_at" = some (.ref t.fV)
 B1:mg "hit" = some (.ref t.mD)
 nh:mg "hit_path" = some (.ref t.fS)
 tD:mg "shared" = some (.ref t.iz)
 ki:Meth K t.C_Hand "lead" t.d7
 rG:Meth K t.C_Hands "move" t.dr
 rH:Meth K t.C_Hands "down" t.dt
 qP:Meth K t.C_Hand "let_go" t.cS
 rJ:Meth K t.C_Hand "click" t.du
 t4:Meth K t.C_Hands "up" t.fc
 t6:mg "_law_asked" = some (.ref t.d6)
 oh:mg "has_box" = some (.ref t.gO)
 rL:Meth K t.C_Hall "boxes" t.dz
 qf:Meth K t.C_Hall "numbers" t.cu
 qQ:Meth K t.C_Hall "unhear" t.cT
 lG:Meth K t.C_Hall "unhear_if_there" t.bh
 ma:Meth K t.C_Hall "do_deed_on_box" t.bq
 qg:Meth K t.C_Hall "do_deed" t.cv
 rK:Meth K t.C_Hall "rouse" t.dw
 oU:Meth K t.C_Hall "give_turn" t.bK
 pv:Meth K t.C_Hall "go_along" t.bY
 sE:Meth K t.C_Hall "call" t.d9
 sF:mg "sent" = some (.ref t.kx)
 B0:mg "law" = some (.ref t.nW)
 c_AROUND:mg "AROUND" = some (.int (1) t.t_AROUND)
 c_BOX_halls:mg "BOX_halls" = some (.int (0) t.t_BOX_halls)
 c_BOX_hands:mg "BOX_hands" = some (.int (1) t.t_BOX_hands)
 c_CUTS_OFF:mg "CUTS_OFF" = some (.str "c" t.t_CUTS_OFF)
 c_DEEDS:mg "DEEDS" = some (.int (3) t.t_DEEDS)
 c_HEIGHT:mg "HEIGHT" = some (.int (5) t.t_HEIGHT)
 c_HIDDEN:mg "HIDDEN" = some (.str "h" t.t_HIDDEN)
 c_IS_DOWN:mg "IS_DOWN" = some (.int (2) t.t_IS_DOWN)
 c_IS_ONCE:mg "IS_ONCE" = some (.int (4) t.t_IS_ONCE)
 c_LEFT:mg "LEFT" = some (.int (2) t.t_LEFT)
 c_LETS_BY:mg "LETS_BY" = some (.str "l" t.t_LETS_BY)
 c_LONGEST_DOUBLE:mg "LONGEST_DOUBLE" = some (.int (20) t.t_LONGEST_DOUBLE)
 c_MARKS:mg "MARKS" = some (.int (6) t.t_MARKS)
 c_NAME:mg "NAME" = some (.int (0) t.t_NAME)
 c_TOP:mg "TOP" = some (.int (3) t.t_TOP)
 c_WIDTH:mg "WIDTH" = some (.int (4) t.t_WIDTH)
 c_WORD_halls:mg "WORD_halls" = some (.int (1) t.t_WORD_halls)
 c_WORD_hands:mg "WORD_hands" = some (.int (0) t.t_WORD_hands)
 z_any:mg "any" = none
 z_enumerate:mg "enumerate" = none
 z_int:mg "int" = none
 z_len:mg "len" = none
 z_list:mg "list" = none
 z_max:mg "max" = none
 z_min:mg "min" = none
 z_range:mg "range" = none
 z_reversed:mg "reversed" = none
 z_sum:mg "sum" = none
 z_tuple:mg "tuple" = none
 z_zip:mg "zip" = none
 cl_Hand:Cls K t.C_Hand
 cl_Hands:Cls K t.C_Hands
 cl_Course:Cls K t.C_Course
 cl_Hall:Cls K t.C_Hall
 na_Course_depth:NoAttr K t.C_Course "depth"
 na_Course_is_ended:NoAttr K t.C_Course "is_ended"
 na_Course_is_kept:NoAttr K t.C_Course "is_kept"
 na_Course_is_last_turn:NoAttr K t.C_Course "is_last_turn"
 na_Course_told:NoAttr K t.C_Course "told"
 na_Course_word:NoAttr K t.C_Course "word"
 na_Hall_hearers:NoAttr K t.C_Hall "hearers"
 na_Hall_made:NoAttr K t.C_Hall "made"
 na_Hall_scene:NoAttr K t.C_Hall "scene"
 na_Hand_clicked:NoAttr K t.C_Hand "clicked"
 na_Hand_clicked_moment:NoAttr K t.C_Hand "clicked_moment"
 na_Hand_held_by:NoAttr K t.C_Hand "held_by"
 na_Hand_pressed_at:NoAttr K t.C_Hand "pressed_at"
 na_Hand_trail:NoAttr K t.C_Hand "trail"
 na_Hand_was_double:NoAttr K t.C_Hand "was_double"
 na_Hands_known:NoAttr K t.C_Hands "known"
 na_Hands_scene:NoAttr K t.C_Hands "scene"
 cc:Fun K "_law_cell" "_law_cell" o9 t.fb t.eY
 al:Fun K "_law_drawn" "_law_drawn" oy t.d5 t.dU
 cX:Fun K "_law_scene" "_law_scene" gT t.d4 t.dS
 bA:Fun K "__init__" "Hall.__init__" lg t.bZ t.bV
 ay:Fun K "box_of" "box_of" tw t.iA t.iw
 ee:Fun K "hear" "Hall.hear" oA t.d8 t.dY
 cC:Fun K "__init__" "Hands.__init__" kJ t.bJ t.bH
 b0:Fun K "__init__" "Hand.__init__" k9 t.bX t.bS
 az:Fun K "hand_of" "Hands.hand_of" k8 t.bW t.bR
 av:Fun K "tell_holder" "Hand.tell_holder" jC t.bu t.br
 a9:Fun K "children" "children" m9 t.fW t.fQ
 dA:Fun K "below" "below" uH t.jt t.js
 dE:Fun K "painted" "painted" rm t.gM t.gF
 aq:Fun K "path_of" "path_of" rj t.gK t.gE
 aQ:Fun K "has_mark" "has_mark" qr t.fU t.fO
 eM:Fun K "is_shown" "is_shown" m8 t.fR t.fM
 cm:Fun K "area_of" "area_of" jB t.gP t.gI
 eJ:Fun K "overlap" "overlap" ro t.gN t.gG
 dN:Fun K "window_of" "window_of" o7 t.e7 t.eW
 iC:Fun K "takers" "takers" mK t.iy t.ir
 bi:Fun K "has_point" "has_point" o8 t.e9 t.eX
 fY:Fun K "first_at" "first_at" qt t.fV t.fP
 mF:Fun K "hit" "hit" xL t.mD t.mw
 aL:Fun K "hit_path" "hit_path" qq t.fS t.fN
 eL:Fun K "shared" "shared" tu t.iz t.iu
 aZ:Fun K "lead" "Hand.lead" jb t.d7 t.dX
 cB:Fun K "move" "Hands.move" kh t.dr t.di
 bP:Fun K "down" "Hands.down" nB t.dt t.dj
 cV:Fun K "let_go" "Hand.let_go" mL t.cS t.cQ
 bQ:Fun K "click" "Hand.click" nC t.du t.dk
 dO:Fun K "up" "Hands.up" pe t.fc t.eZ
 cn:Fun K "_law_asked" "_law_asked" oz t.d6 t.dW
 aU:Fun K "has_box" "has_box" n4 t.gO t.gH
 cE:Fun K "boxes" "Hall.boxes" nF t.dz t.dq
 cw:Fun K "numbers" "Hall.numbers" jo t.cu t.cq
 fL:Fun K "unhear" "Hall.unhear" mM t.cT t.cR
 cW:Fun K "unhear_if_there" "Hall.unhear_if_there" l6 t.bh t.bg
 c8:Fun K "do_deed_on_box" "Hall.do_deed_on_box" mG t.bq t.bp
 cx:Fun K "do_deed" "Hall.do_deed" l8 t.cv t.cr
 cD:Fun K "rouse" "Hall.rouse" nE t.dw t.dm
 bN:Fun K "give_turn" "Hall.give_turn" kK t.bK t.bI
 b5:Fun K "go_along" "Hall.go_along" f6 t.bY t.bU
 bc:Fun K "__init__" "Course.__init__" j2 t.bC t.bB
 cY:Fun K "call" "Hall.call" oB t.d9 t.dZ
 eP:Fun K "sent" "sent" we t.kx t.ku
 p4:Fun K "law" "law" l5 t.nW t.nV
 vD:Binds K t.eY ii []
 cj:Binds K t.dU gW []
 uc:Binds K t.dS gU []
 ly:Binds K t.bV eB []
 jw:Binds K t.iw kN []
 ue:Binds K t.dY gZ []
 pT:Binds K t.bH dJ []
 qh:Binds K t.bS ez []
 iX:Binds K t.bR eu []
 gJ:Binds K t.br cM []
 qG:Binds K t.fQ i6 []
 vC:Binds K t.js l9 []
 xp:Binds K t.gF jG []
 fI:Binds K t.gE jF []
 nv:Binds K t.fO i4 []
 vY:Binds K t.fM i0 []
 r6:Binds K t.gI jJ []
 xq:Binds K t.gG jH []
 vA:Binds K t.eW ie []
 yE:Binds K t.ir kL []
 vB:Binds K t.eX ig []
 vZ:Binds K t.fP i5 []
 CG:Binds K t.mw pf []
 nu:Binds K t.fN i3 []
 tQ:Binds K t.iu kM []
 kY:Binds K t.dX gY []
 sP:Binds K t.di gk []
 sQ:Binds K t.dj gl []
 r8:Binds K t.cQ fw []
 sR:Binds K t.dk gm []
 vE:Binds K t.eZ ij []
 ud:Binds K t.dW gX []
 ou:Binds K t.gH jI []
 sU:Binds K t.dq gp []
 qX:Binds K t.cq eS []
 r9:Binds K t.cR fA []
 my:Binds K t.bg eQ []
 mJ:Binds K t.bp fo []
 qY:Binds K t.cr eT []
 sS:Binds K t.dm gn []
 pU:Binds K t.bI dL []
 qi:Binds K t.bU eA []
 oW:Binds K t.bB de []
 uf:Binds K t.dZ g0 []
 sO:Binds K t.ku nG []
 Ht:Binds K t.nV ["_law_script"] []
theorem tx_ex {K:Iv} {mg:Str->Option IE} {C_Hand C_Hands C_Course C_Hall fb d5 d4 bZ iA d8 bJ bX bW bu fW jt gM gK fU fR gP gN e7 iy e9 fV mD fS iz d7 dr dt cS du fc d6 gO dz cu cT bh bq cv dw bK bY bC d9 kx nW:IS} {eY dU dS bV iw dY bH bS bR br fQ js gF gE fO fM gI gG eW ir eX fP mw fN iu dX di dj cQ dk eZ dW gH dq cq cR bg bp cr dm bI bU bB dZ ku nV:Jx} {t_AROUND t_BOX_halls t_BOX_hands t_CUTS_OFF t_DEEDS t_HEIGHT t_HIDDEN t_IS_DOWN t_IS_ONCE t_LEFT t_LETS_BY t_LONGEST_DOUBLE t_MARKS t_NAME t_TOP t_WIDTH t_WORD_halls t_WORD_hands:Tok} (tx:Tx K mg ⟨C_Hand,C_Hands,C_Course,C_Hall,fb,d5,d4,bZ,iA,d8,bJ,bX,bW,bu,fW,jt,gM,gK,fU,fR,gP,gN,e7,iy,e9,fV,mD,fS,iz,d7,dr,dt,cS,du,fc,d6,gO,dz,cu,cT,bh,bq,cv,dw,bK,bY,bC,d9,kx,nW,eY,dU,dS,bV,iw,dY,bH,bS,bR,br,fQ,js,gF,gE,fO,fM,gI,gG,eW,ir,eX,fP,mw,fN,iu,dX,di,dj,cQ,dk,eZ,dW,gH,dq,cq,cR,bg,bp,cr,dm,bI,bU,bB,dZ,ku,nV,t_AROUND,t_BOX_halls,t_BOX_hands,t_CUTS_OFF,t_DEEDS,t_HEIGHT,t_HIDDEN,t_IS_DOWN,t_IS_ONCE,t_LEFT,t_LETS_BY,t_LONGEST_DOUBLE,t_MARKS,t_NAME,t_TOP,t_WIDTH,t_WORD_halls,t_WORD_hands⟩):∃ t,Tx K mg t:=⟨_,tx⟩
end K26
section
open PySem PySem.W PyProof.Rows
set_option maxRecDepth 100000 in
set_option maxHeartbeats 0 in
theorem K26.tx:∃ K:Params->Frag,(∀ w h,K26.hk.H.says w h->(K w.params).In h)/\∀ (P:Params) (mg:Str->Option IE) (h:Heap),(K P).In h->h.Ns mainGlobals mg->∃ t,K26.Tx (K P) mg t:=by
 refine' L2.PU.tx_mk (H:=K26.hk.H) (T:=λ K mg=>∃ t,K26.Tx K mg t) (λ w h Y=>show InK _ w h from Y) ?tx
 (case tx =>
  refine (λ (f:PySem.Challenge.rw_touchtree_k26_whole_sent=PySem.Challenge.rw_touchtree_k26_whole_sent->_)=>f rfl) ?_
  k_fill
  intro _ P mg h KX G
  refine' K26.tx_ex ?t2
  case t2 =>
   constructor
   all_goals first
   | exact mg_of KX G (by k_is)
   | exact mg_none_of KX G (by k_is)
   | exact L2.PU.na_mk (by k_is)
   | exact L2.fun_mk (by k_is) (by k_is) (by (try dsimp only); k_is)
   | exact L2.PU.bi_mk (by (repeat' intro _); exact rfl)
   | (constructor <;> (try dsimp only) <;> k_is)
)
end
namespace K26
open PySem L2 L2.PU
noncomputable def cl (t:Adr):Nat->IS
 | 0=>t.C_Hand
 | 1=>t.C_Hands
 | 2=>t.C_Course
 | _=>t.C_Hall
section
variable {Pr:Jg} {w:World} {K:Iv} {mg:Str->Option IE} {base:Heap} {t:Adr}
section
variable {k:Nat} {pH oF tL lm qB vd rQ qz rV rS rR qx pE pG tJ qA yg tK lj jL qy oH mO nM nK nL pJ il rT iQ mQ mf me nN kP lu j3 nO oJ oC lv oI kO oG wk:Nat}
variable {jg aE a7 eU iq aG cb i8 kG kF jR je jf lQ jS p8 gB b9 cJ iG:PFn}
variable {fF aX aK bz gC hX hV hW jh cF cP gD f9 f8 h8 fk fG eI h9 iJ dM iI fj iH kq:DFn}
variable (tx:Tx K mg t)
variable (jZ:FnOk Pr w K mg base CX0 pH t.fb t.eY ii (spP K jg)) (oN:pH<=k)
variable (aY:FnOk Pr w K mg base CX0 oF t.d5 t.dU gW (spP K aE)) (bf:oF<=k)
variable (bn:FnOk Pr w K mg base CX0 tL t.iA t.iw kN (spP K a7)) (cO:tL<=k)
variable (gd:FnOk Pr w K mg base CX0 lm t.bX t.bS ez (spM K (cl t) fF)) (kQ:lm+1<=k)
variable (fX:FnOk Pr w K mg base CX0 qB t.fW t.fQ i6 (spP K eU)) (jM:qB<=k)
variable (ju:FnOk Pr w K mg base CX0 vd t.jt t.js l9 (spP K iq)) (mR:vd<=k)
variable (aJ:FnOk Pr w K mg base CX0 rQ t.gK t.gE jF (spP K aG)) (a8:rQ<=k)
variable (cL:FnOk Pr w K mg base CX0 qz t.fU t.fO i4 (spP K cb)) (gw:qz<=k)
variable (jY:FnOk Pr w K mg base CX0 rV t.gP t.gI jJ (spP K i8)) (nl:rV<=k)
variable (lV:FnOk Pr w K mg base CX0 rS t.gN t.gG jH (spP K kG)) (qD:rS<=k)
variable (lU:FnOk Pr w K mg base CX0 rR t.gM t.gF jG (spP K kF)) (qC:rR<=k)
variable (kH:FnOk Pr w K mg base CX0 qx t.fR t.fM i0 (spP K jR)) (pL:qx<=k)
variable (jW:FnOk Pr w K mg base CX0 pE t.e7 t.eW ie (spP K je)) (oK:pE<=k)
variable (jX:FnOk Pr w K mg base CX0 pG t.e9 t.eX ig (spP K jf)) (oM:pG<=k)
variable (m5:FnOk Pr w K mg base CX0 tJ t.iy t.ir kL (spP K lQ)) (rX:tJ<=k)
variable (kI:FnOk Pr w K mg base CX0 qA t.fV t.fP i5 (spP K jS)) (pM:qA<=k)
variable (si:FnOk Pr w K mg base CX0 yg t.mD t.mw pf (spP K p8)) (wn:yg<=k)
variable (iB:FnOk Pr w K mg base CX0 tK t.iz t.iu kM (spP K gB)) (lM:tK<=k)
variable (a5:FnOk Pr w K mg base CX0 lj t.bW t.bR eu (spM K (cl t) aX)) (cz:lj<=k)
variable (aM:FnOk Pr w K mg base CX0 jL t.bu t.br cM (spM K (cl t) aK)) (bF:jL<=k)
variable (cK:FnOk Pr w K mg base CX0 qy t.fS t.fN i3 (spP K b9)) (gu:qy<=k)
variable (bO:FnOk Pr w K mg base CX0 oH t.d7 t.dX gY (spM K (cl t) bz)) (eO:oH<=k)
variable (ia:FnOk Pr w K mg base CX0 mO t.cS t.cQ fw (spM K (cl t) gC)) (mj:mO<=k)
variable (iN:FnOk Pr w K mg base CX0 nM t.du t.dk gm (spM K (cl t) hX)) (mU:nM<=k)
variable (iK:FnOk Pr w K mg base CX0 nK t.dr t.di gk (spM K (cl t) hV)) (mS:nK<=k)
variable (iL:FnOk Pr w K mg base CX0 nL t.dt t.dj gl (spM K (cl t) hW)) (mT:nL<=k)
variable (j0:FnOk Pr w K mg base CX0 pJ t.fc t.eZ ij (spM K (cl t) jh)) (oO:pJ<=k)
variable (cU:FnOk Pr w K mg base CX0 il t.bh t.bg eQ (spM K (cl t) cF)) (hU:il<=k)
variable (dD:FnOk Pr w K mg base CX0 rT t.gO t.gH jI (spP K cJ)) (g9:rT<=k)
variable (c7:FnOk Pr w K mg base CX0 iQ t.bq t.bp fo (spM K (cl t) cP)) (im:iQ<=k)
variable (ib:FnOk Pr w K mg base CX0 mQ t.cT t.cR fA (spM K (cl t) gD)) (ml:mQ<=k)
variable (gR:FnOk Pr w K mg base CX0 mf t.cv t.cr eT (spM K (cl t) f9)) (lx:mf<=k)
variable (gQ:FnOk Pr w K mg base CX0 me t.cu t.cq eS (spM K (cl t) f8)) (lw:me<=k)
variable (iO:FnOk Pr w K mg base CX0 nN t.dw t.dm gn (spM K (cl t) h8)) (mW:nN<=k)
variable (fK:FnOk Pr w K mg base CX0 kP t.bK t.bI dL (spM K (cl t) fk)) (j6:kP<=k)
variable (gf:FnOk Pr w K mg base CX0 lu t.bY t.bU eA (spM K (cl t) fG)) (kR:lu<=k)
variable (fm:FnOk Pr w K mg base CX0 j3 t.bC t.bB de (spM K (cl t) eI)) (jN:j3+1<=k)
variable (iP:FnOk Pr w K mg base CX0 nO t.dz t.dq gp (spM K (cl t) h9)) (mX:nO<=k)
variable (jn:FnOk Pr w K mg base CX0 oJ t.d9 t.dZ g0 (spM K (cl t) iJ)) (nS:oJ<=k)
variable (jk:FnOk Pr w K mg base CX0 oC t.d4 t.dS gU (spP K iG)) (nP:oC<=k)
variable (eF:FnOk Pr w K mg base CX0 lv t.bZ t.bV eB (spM K (cl t) dM)) (io:lv+1<=k)
variable (jm:FnOk Pr w K mg base CX0 oI t.d8 t.dY gZ (spM K (cl t) iI)) (nR:oI<=k)
variable (fJ:FnOk Pr w K mg base CX0 kO t.bJ t.bH dJ (spM K (cl t) fj)) (j5:kO+1<=k)
variable (jl:FnOk Pr w K mg base CX0 oG t.d6 t.dW gX (spM K (cl t) iH)) (nQ:oG<=k)
variable (lW:FnOk Pr w K mg base CX0 wk t.kx t.ku nG (spM K (cl t) kq)) (ol:wk<=k)
noncomputable abbrev vJ:List Str:=["_law_script", "_law_k"]
theorem tU:aI vJ ii (af o9):=b6
noncomputable def jO  : En->Option Out :=
 (c9 (sIf (bT (l2 pEq (eV 0) (oE (λ η=>(aN η).bind gL)))) (ic (l2 mI (eC (.int 7)) (eV 1))) sNx)
  (ic (l2 aW (l2 pIx (eV 0) (l2 nH (eV 1) (lA tW (aC (eV 0) aN)))) (l2 mI (eC (.int 6553)) (l2 ph (eV 1) (lA tW (aC (eV 0) aN)))))))
include tx in
theorem tZ:FnOk Pr w K mg base CX0 (k+1) t.fb t.eY ii (spP K (dh 2 2 (jO))) :=
 fnP tx.cc tU λ _ _ _ _ _ _ _ hr =>
  (@ba _ _ _ _ _ _ (@S.ifS _ _ _ _ _ _ _ _ _ (sX hr (au 0) (bm (ce ak))) (@bL _ _ _ _ (jx (E.mul aF (au 1)))) Ss.nil)
  (@bL _ _ _ _ (jx (eN (df (au 0) (E.mod (au 1) (E.len tx.z_len (ac (au 0) ak)))) (E.mul aF (E.fdiv (au 1) (E.len tx.z_len (ac (au 0) ak))))))))
noncomputable abbrev ug:List Str:=["_law_script", "_law_k", "_law_many", "_law_cell_here"]
theorem j9:aI ug gW (af oy):=b6
noncomputable def jd (jg:PFn):En->Option Out :=
 (c9 (hE 3 (l2 nH (l2 aW (l2 mI (l2 nH (lA jg (aC (eV 0) (aC (eV 1) aN))) (eC (.int 2147483563))) (eC (.int 69069))) (l2 mI (eC (.int 104723)) (l2 aW (eV 1) (eC (.int 1))))) (eC (.int 2147483563))))
  (c9 (hE 3 (l2 nH (l2 aW (l2 mI (eV 3) (eV 3)) (l2 ph (eV 3) (eC (.int 3)))) (eC (.int 2147483399))))
  (ic (l2 nH (l2 ph (l2 nH (l2 aW (l2 mI (eV 3) (eV 3)) (l2 ph (eV 3) (eC (.int 7)))) (eC (.int 2147483647))) (eC (.int 11))) (eV 2)))))
include tx jZ oN in
theorem sv:FnOk Pr w K mg base CX0 (k+1) t.d5 t.dU gW (spP K (dh 3 4 (jd jg))) :=
 fnP tx.al j9 λ _ _ _ _ _ _ _ hr =>
  (@ba _ _ _ _ _ _ (jU 3 j9.nd (E.mod (eN (E.mul (E.mod (aV jZ hr oN tx.u0 tx.cc.kp tx.vD (ac (au 0) (ac (au 1) ak))) aF) aF) (E.mul aF (eN (au 1) aF))) aF))
  (@ba _ _ _ _ _ _ (jU 3 j9.nd (E.mod (eN (E.mul (au 3) (au 3)) (E.fdiv (au 3) aF)) aF))
  (@bL _ _ _ _ (jx (E.mod (E.fdiv (E.mod (eN (E.mul (au 3) (au 3)) (E.fdiv (au 3) aF)) aF) aF) (au 2))))))
noncomputable abbrev jj:List Str:=["_law_script", "_law_at", "_law_found", "_law_turn", "_law_k", "_law_here", "_law_around", "_law_places", "_law_sizes", "_law_marks", "_law_j", "_law_sign", "_law_name"]
theorem aP:aI jj gU (af gT):=b6
noncomputable def jc (aE:PFn):En->Option Out :=
 (c9 (hE 2 (lA (λ ds=>if ds.length<=IB then some (.tuple ds) else none) aN))
  (c9 (hE 3 (lA aE (aC (eV 0) (aC (l2 aW (eV 1) (eC (.int 1))) (aC (eC (.int 8)) aN)))))
  (c9 (oR (λ η=>((aC (lA aE (aC (eV 0) (aC (eV 1) (aC (eC (.int 8)) aN)))) aN) η).bind rng1) (tgN 4)
  (c9 (hE 5 (l2 aW (l2 aW (eV 1) (eC (.int 3))) (l2 mI (eC (.int 9)) (eV 4))))
  (c9 (hE 6 (l2 pIx (l2 aW (oE (λ η=>((aC (eC (.str "")) aN) η).bind gL)) (oE (bj [none] (lI qj (eV 2)) (tgN 0) cy (l2 pIx (eV 0) (eC (.int 0)))))) (lA aE (aC (eV 0) (aC (eV 5) (aC (l2 aW (eV 4) (eC (.int 1))) aN))))))
  (c9 (lh 7 (bj [none,some 0,some 5] (λ η=>((aC (eC (.int 2)) aN) η).bind rng1) (tgN 0) cy (l2 vO (lA aE (aC (eV 1) (aC (l2 aW (l2 aW (eV 2) (eC (.int 1))) (eV 0)) (aC (eC (.int 9)) aN)))) (eC (.int 3)))))
  (λ η=>(c9 (lh 8 (bj [none,some 0,some 5] (λ η=>((aC (eC (.int 2)) aN) η).bind rng1) (tgN 0) cy (lA aE (aC (eV 1) (aC (l2 aW (l2 aW (eV 2) (eC (.int 3))) (eV 0)) (aC (eC (.int 9)) aN))))))
  (λ η=>(c9 (hE 9 (eC (.str "")))
  (c9 (oR (λ η=>((aC (eC (.str "cfhl")) aN) η).bind enS) (tgT (aO (tgN 10) (aO (tgN 11) gi)))
  (sIf (bT (l2 pEq (lA aE (aC (eV 0) (aC (l2 aW (l2 aW (eV 5) (eC (.int 5))) (eV 10)) (aC (l2 pIx (oE (λ η=>((aC (eC (.int 4)) (aC (eC (.int 2)) (aC (eC (.int 9)) (aC (eC (.int 6)) aN)))) η).bind gL)) (eV 10)) aN)))) (eC (.int 0)))) (hE 9 (l2 aW (eV 9) (eV 11))) sNx))
  (c9 (hE 12 (l2 pIx (eC (.str "dbgahcfe")) (l2 nH (l2 aW (eV 4) (eV 3)) (eC (.int 8)))))
  (hE 2 (l2 aW (eV 2) (lA (λ ds=>if ds.length<=IB then some (.tuple ds) else none) (aC (l2 aW (l2 aW (lA (λ ds=>if ds.length<=IB then some (.tuple ds) else none) (aC (eV 12) (aC (eV 6) aN))) (lA AG (aC (l2 aW (eV 7) (eV 8)) aN))) (lA (λ ds=>if ds.length<=IB then some (.tuple ds) else none) (aC (eV 9) aN))) aN))))))) (frz 8 η))) (frz 7 η))))))
  (ic (eV 2)))))
include tx aY bf in
theorem su:FnOk Pr w K mg base CX0 (k+1) t.d4 t.dS gU (spP K (dh 2 13 (jc aE))) :=
 fnP tx.cX aP λ _ _ _ _ _ _ _ hr =>
  (@ba _ _ _ _ _ _ (jU 2 aP.nd (g7 ak))
  (@ba _ _ _ _ _ _ (jU 3 aP.nd (aV aY hr bf tx.ci tx.al.kp tx.cj (ac (au 0) (ac (eN (au 1) aF) (ac aF ak)))))
  (@ba _ _ _ _ _ _ (@S.for _ _ _ _ _ _ _ _ _ _ _ Jk rfl (I.rng1 tx.z_range (ac (aV aY hr bf tx.ci tx.al.kp tx.cj (ac (au 0) (ac (au 1) (ac aF ak)))) ak)) (aH (i:=4) aP.nd rfl (by first | exact Or.inl rfl | exact Or.inr rfl) ) (ax (i:=4))
  (@ba _ _ _ _ _ _ (jU 5 aP.nd (eN (eN (au 1) aF) (E.mul aF (au 4))))
  (@ba _ _ _ _ _ _ (jU 6 aP.nd (df (eN (bm (ce (ac fZ ak))) (bm (gh (N':=["_law_box_here"]) (mp:=[none]) rfl (a6 jj (af gT) rfl rfl (by decide +kernel)) (ax (i:=0)) (by decide) (I.tup (au 2)) (λ _ _ _=>⟨(aH (i:=0) (show (["_law_box_here"]:List Str).Nodup by decide +kernel) rfl (Or.inl rfl) (.inr rfl)),Ts.nil,(df (au 0) aF)⟩)))) (aV aY hr bf tx.ci tx.al.kp tx.cj (ac (au 0) (ac (au 5) (ac (eN (au 4) aF) ak))))))
  (@ba _ _ _ _ _ _ (S.setC 7 (N':=["_law_j", "_law_script", "_law_here"]) (mp:=[none,some 0,some 5]) rfl aP.nd (a6 jj (af gT) rfl rfl (by decide +kernel)) (ax (i:=0)) (by decide) (I.rng1 tx.z_range (ac aF ak)) (λ _ _ _=>⟨(aH (i:=0) (show (["_law_j", "_law_script", "_law_here"]:List Str).Nodup by decide +kernel) rfl (Or.inl rfl) (.inr rfl)),Ts.nil,(E.sub (aV aY hr bf tx.ci tx.al.kp tx.cj (ac (au 1) (ac (eN (eN (au 2) aF) (au 0)) (ac aF ak)))) aF)⟩))
  (@Ss.frz _ _ _ _ 7 (@ba _ _ _ _ _ _ (S.setC 8 (N':=["_law_j", "_law_script", "_law_here"]) (mp:=[none,some 0,some 5]) rfl aP.nd (a6 jj (af gT) rfl rfl (by decide +kernel)) (ax (i:=0)) (by decide) (I.rng1 tx.z_range (ac aF ak)) (λ _ _ _=>⟨(aH (i:=0) (show (["_law_j", "_law_script", "_law_here"]:List Str).Nodup by decide +kernel) rfl (Or.inl rfl) (.inr rfl)),Ts.nil,(aV aY hr bf tx.ci tx.al.kp tx.cj (ac (au 1) (ac (eN (eN (au 2) aF) (au 0)) (ac aF ak))))⟩))
  (@Ss.frz _ _ _ _ 8 (@ba _ _ _ _ _ _ (jU 9 aP.nd fZ)
  (@ba _ _ _ _ _ _ (@S.for _ _ _ _ _ _ _ _ _ _ _ Jk rfl (I.enum rfl tx.z_enumerate (ac fZ ak)) (n8 (n:=2) rfl (db (aH (i:=10) aP.nd rfl (by first | exact Or.inl rfl | exact Or.inr rfl) ) (db (aH (i:=11) aP.nd rfl (by first | exact Or.inl rfl | exact Or.inr rfl) ) lE))) (TgP.tup (n:=2) (b7 (ax (i:=10)) (b7 (ax (i:=11)) TgsP.nil)) (lz))
  (@bL _ _ _ _ (@S.ifS _ _ _ _ _ _ _ _ _ (sX hr (aV aY hr bf tx.ci tx.al.kp tx.cj (ac (au 0) (ac (eN (eN (au 5) aF) (au 10)) (ac (df (bm (ce (ac aF (ac aF (ac aF (ac aF ak)))))) (au 10)) ak)))) aF) (@bL _ _ _ _ (jU 9 aP.nd (eN (au 9) (au 11)))) Ss.nil)) (λ _=>rfl))
  (@ba _ _ _ _ _ _ (jU 12 aP.nd (df fZ (E.mod (eN (au 4) (au 3)) aF)))
  (@bL _ _ _ _ (jU 2 aP.nd (eN (au 2) (g7 (ac (eN (eN (g7 (ac (au 12) (ac (au 6) ak))) (E.tuple tx.z_tuple (ac (eN (au 7) (au 8)) ak))) (g7 (ac (au 9) ak))) ak)))))))))))))) (λ _=>rfl))
  (@bL _ _ _ _ (jx (au 2))))))
noncomputable abbrev qm:List Str:=["self", "scene"]
theorem o6:aI qm eB (af lg):=b6
noncomputable def iV  : Wd->Option MOut :=
 (bb (hG 3 "scene" (mV 0) (mP (eV 1)))
  (bb (hG 3 "hearers" (mV 0) u5)
  (hG 3 "made" (mV 0) (mP (eC (.int 0))))))
include tx in
theorem pq:FnOk Pr w K mg base CX0 (k+1) t.bZ t.bV eB (spM K (cl t) (cZ 2 2 (iV))) :=
 fnM tx.bA o6 λ _ _ _ _ _ _ hr =>
  (@ag _ _ _ _ _ _ (c0 (k:=3) (bv 0) (aj λ _=>(au 1)) tx.na_Hall_scene)
  (@ag _ _ _ _ _ _ (c0 (k:=3) (bv 0) ME.dict0 tx.na_Hall_hearers)
  (@aA _ _ _ _ (c0 (k:=3) (bv 0) (aj λ _=>aF) tx.na_Hall_made))))
noncomputable abbrev yH:List Str:=["scene", "name", "box"]
theorem rh:aI yH kN (af tw):=b6
noncomputable def mY  : En->Option Out :=
 (c9 (oR (lI qj (eV 0)) (tgN 2)
  (sIf (bT (l2 pEq (l2 pIx (eV 2) (eC (.int 0))) (eV 1))) (ic (eV 2)) sNx))
  (λ _=>none))
include tx in
theorem wV:FnOk Pr w K mg base CX0 (k+1) t.iA t.iw kN (spP K (dh 2 3 (mY))) :=
 fnP tx.ay rh λ _ _ _ _ _ _ _ hr =>
  (@ba _ _ _ _ _ _ (@S.for _ _ _ _ _ _ _ _ _ _ _ Jk rfl (I.tup (au 0)) (aH (i:=2) rh.nd rfl (by first | exact Or.inl rfl | exact Or.inr rfl) ) (ax (i:=2))
  (@bL _ _ _ _ (@S.ifS _ _ _ _ _ _ _ _ _ (sX hr (df (au 2) (dG tx.c_NAME)) (au 1)) (@bL _ _ _ _ (jx (au 2))) Ss.nil)) (λ _=>rfl))
  (@bL _ _ _ _ S.never))
noncomputable abbrev ui:List Str:=["self", "name", "word", "is_down", "deeds", "is_once", "number"]
theorem nA:aI ui gZ (af oA):=b6
noncomputable def kW (a7:PFn):Wd->Option MOut :=
 (bb (km (mP (lA a7 (aC (dQ 0 "scene") (aC (eV 1) aN)))))
  (bb (dP 6 (mP (dQ 0 "made")))
  (bb (z9 (qS (mV 0) "hearers") (mP (eV 6)) (mP (lA (λ ds=>if ds.length<=IB then some (.tuple ds) else none) (aC (eV 1) (aC (eV 2) (aC (eV 3) (aC (eV 4) (aC (eV 5) aN))))))))
  (bb (Aa 3 "made" (mV 0) (mP (eC (.int 1))))
  (kj (mP (eV 6)))))))
include tx bn cO in
theorem sy:FnOk Pr w K mg base CX0 (k+1) t.d8 t.dY gZ (spM K (cl t) (cZ 6 7 (kW a7))) :=
 fnM tx.ee nA λ _ _ _ _ _ _ hr =>
  (@ag _ _ _ _ _ _ (kA (aj λ _=>(aV bn hr cO tx.jv tx.ay.kp tx.jw (ac (g8 0) (ac (au 1) ak)))))
  (@ag _ _ _ _ _ _ (bM 6 nA.nd (aj λ _=>(g8 0)))
  (@ag _ _ _ _ _ _ (MS.putC hr (ME.fld (bv 0)) (aj λ _=>(au 6)) (aj λ _=>(g7 (ac (au 1) (ac (au 2) (ac (au 3) (ac (au 4) (ac (au 5) ak))))))))
  (@ag _ _ _ _ _ _ (MS.augF (k:=3) (bv 0) (aj λ _=>aF) tx.na_Hall_made)
  (@aA _ _ _ _ (fe (aj λ _=>(au 6))))))))
noncomputable abbrev pX:List Str:=["self", "scene"]
theorem oQ:aI pX dJ (af kJ):=b6
noncomputable def fC  : Wd->Option MOut :=
 (bb (hG 1 "scene" (mV 0) (mP (eV 1)))
  (hG 1 "known" (mV 0) u5))
include tx in
theorem oS:FnOk Pr w K mg base CX0 (k+1) t.bJ t.bH dJ (spM K (cl t) (cZ 2 2 (fC))) :=
 fnM tx.cC oQ λ _ _ _ _ _ _ hr =>
  (@ag _ _ _ _ _ _ (c0 (k:=1) (bv 0) (aj λ _=>(au 1)) tx.na_Hands_scene)
  (@aA _ _ _ _ (c0 (k:=1) (bv 0) ME.dict0 tx.na_Hands_known)))
noncomputable abbrev ql:List Str:=["self"]
theorem o5:aI ql ez (af k9):=b6
noncomputable def f7  : Wd->Option MOut :=
 (bb (hG 0 "trail" (mV 0) (mP (oE (λ η=>(aN η).bind gL))))
  (bb (hG 0 "pressed_at" (mV 0) (mP (eC .none)))
  (bb (hG 0 "held_by" (mV 0) (mP (eC .none)))
  (bb (hG 0 "clicked" (mV 0) (mP (eC .none)))
  (bb (hG 0 "clicked_moment" (mV 0) (mP (eC (.int 0))))
  (hG 0 "was_double" (mV 0) (mP (eC (.bool false)))))))))
include tx in
theorem pj:FnOk Pr w K mg base CX0 (k+1) t.bX t.bS ez (spM K (cl t) (cZ 1 1 (f7))) :=
 fnM tx.b0 o5 λ _ _ _ _ _ _ hr =>
  (@ag _ _ _ _ _ _ (c0 (k:=0) (bv 0) (aj λ _=>(bm (ce ak))) tx.na_Hand_trail)
  (@ag _ _ _ _ _ _ (c0 (k:=0) (bv 0) (aj λ _=>nZ) tx.na_Hand_pressed_at)
  (@ag _ _ _ _ _ _ (c0 (k:=0) (bv 0) (aj λ _=>nZ) tx.na_Hand_held_by)
  (@ag _ _ _ _ _ _ (c0 (k:=0) (bv 0) (aj λ _=>nZ) tx.na_Hand_clicked)
  (@ag _ _ _ _ _ _ (c0 (k:=0) (bv 0) (aj λ _=>aF) tx.na_Hand_clicked_moment)
  (@aA _ _ _ _ (c0 (k:=0) (bv 0) (aj λ _=>tq) tx.na_Hand_was_double)))))))
noncomputable abbrev qk:List Str:=["self", "hand"]
theorem o4:aI qk eu (af k8):=b6
noncomputable def iT (fF:DFn):Wd->Option MOut :=
 (kj (B3 (qS (mV 0) "known") (mP (eV 1)) (pB 0 fF maN)))
include tx gd kQ in
theorem pi:FnOk Pr w K mg base CX0 (k+1) t.bW t.bR eu (spM K (cl t) (cZ 2 2 (iT fF))) :=
 fnM tx.az o4 λ _ _ _ _ _ _ hr =>
  (@aA _ _ _ _ (fe (ME.setdef (ME.fld (bv 0)) (aj λ _=>(au 1)) (ME.make0 (kc:=0) tx.cl_Hand tx.mk_Hand gd hr kQ tx.mg_Hand tx.qh))))
noncomputable abbrev ox:List Str:=["self", "word"]
theorem nz:aI ox cM (af jC):=b6
noncomputable def gA  : Wd->Option MOut :=
 (kj (FQ (tPv (bT (l2 (ss false) (dQ 0 "held_by") (eC .none)))) (mN (λ η=>(aN η).bind gL)) (mN (λ η=>((aC (lA (λ ds=>if ds.length<=IB then some (.tuple ds) else none) (aC (eV 1) (aC (dQ 0 "held_by") aN))) aN) η).bind gL))))
include tx in
theorem nI:FnOk Pr w K mg base CX0 (k+1) t.bu t.br cM (spM K (cl t) (cZ 2 2 (gA))) :=
 fnM tx.av nz λ _ _ _ _ _ _ hr =>
  (@aA _ _ _ _ (fe (ME.ifx (jV λ _=>(T.isN (g8 0) nZ)) (ME.nw λ _=>(ce ak)) (ME.nw λ _=>(ce (ac (g7 (ac (au 1) (ac (g8 0) ak))) ak))))))
noncomputable abbrev qI:List Str:=["scene", "name"]
theorem uG:aI qI i6 (af m9):=b6
noncomputable def kE  : En->Option Out :=
 (ic (oE (bj [none,some 1] (lI qj (eV 0)) (tgN 0) (bT (l2 pEq (l2 pIx (eV 0) (eC (.int 1))) (eV 1))) (l2 pIx (eV 0) (eC (.int 0))))))
include tx in
theorem uV:FnOk Pr w K mg base CX0 (k+1) t.fW t.fQ i6 (spP K (dh 2 2 (kE))) :=
 fnP tx.a9 uG λ _ _ _ _ _ _ _ hr =>
  (@bL _ _ _ _ (jx (bm (gh (N':=["box", "name"]) (mp:=[none,some 1]) rfl (a6 qI (af m9) rfl rfl (by decide +kernel)) (ax (i:=0)) (by decide) (I.tup (au 0)) (λ _ _ _=>⟨(aH (i:=0) (show (["box", "name"]:List Str).Nodup by decide +kernel) rfl (Or.inl rfl) (.inr rfl)),(Ts.one (sX hr (df (au 0) (dG tx.c_AROUND)) (au 1))),(df (au 0) (dG tx.c_NAME))⟩)))))
noncomputable abbrev zy:List Str:=["scene", "name", "names", "child"]
theorem o3:aI zy l9 (af uH):=b6
noncomputable def oq (a7:PFn) (eU:PFn) (iq:PFn):En->Option Out :=
 (c9 (lh 2 (λ η=>((aC (l2 pIx (lA a7 (aC (eV 0) (aC (eV 1) aN))) (eC (.int 0))) aN) η).bind gL))
  (c9 (oR (lI asL (lA eU (aC (eV 0) (aC (eV 1) aN)))) (tgN 3)
  (uI 2 (lI asL (lA iq (aC (eV 0) (aC (eV 3) aN))))))
  (xM 2)))
include tx bn cO fX jM ju mR in
theorem xV:FnOk Pr w K mg base CX0 (k+1) t.jt t.js l9 (spP K (dh 2 4 (oq a7 eU iq))) :=
 fnP tx.dA o3 λ _ _ _ _ _ _ _ hr =>
  (@ba _ _ _ _ _ _ (S.setO 2 o3.nd (ce (ac (df (aV bn hr cO tx.jv tx.ay.kp tx.jw (ac (au 0) (ac (au 1) ak))) (dG tx.c_NAME)) ak)))
  (@ba _ _ _ _ _ _ (@S.for _ _ _ _ _ _ _ _ _ _ _ Jk rfl (I.list (aV fX hr jM tx.qu tx.a9.kp tx.qG (ac (au 0) (ac (au 1) ak)))) (aH (i:=3) o3.nd rfl (by first | exact Or.inl rfl | exact Or.inr rfl) ) (ax (i:=3))
  (@bL _ _ _ _ (S.ext 2 (aV ju hr mR tx.uZ tx.dA.kp tx.vC (ac (au 0) (ac (au 3) ak))))) (λ _=>rfl))
  (@bL _ _ _ _ (S.retO 2))))
noncomputable abbrev xx:List Str:=["scene", "names", "name"]
theorem m6:aI xx jG (af rm):=b6
noncomputable def lO (eU:PFn) (iq:PFn):En->Option Out :=
 (c9 (lh 1 (λ η=>(aN η).bind gL))
  (c9 (oR (lI asL (lA eU (aC (eV 0) (aC (eC (.str "")) aN)))) (tgN 2)
  (uI 1 (lI asL (lA iq (aC (eV 0) (aC (eV 2) aN))))))
  (xM 1)))
include tx fX jM ju mR in
theorem vQ:FnOk Pr w K mg base CX0 (k+1) t.gM t.gF jG (spP K (dh 1 3 (lO eU iq))) :=
 fnP tx.dE m6 λ _ _ _ _ _ _ _ hr =>
  (@ba _ _ _ _ _ _ (S.setO 1 m6.nd (ce ak))
  (@ba _ _ _ _ _ _ (@S.for _ _ _ _ _ _ _ _ _ _ _ Jk rfl (I.list (aV fX hr jM tx.qu tx.a9.kp tx.qG (ac (au 0) (ac fZ ak)))) (aH (i:=2) m6.nd rfl (by first | exact Or.inl rfl | exact Or.inr rfl) ) (ax (i:=2))
  (@bL _ _ _ _ (S.ext 1 (aV ju hr mR tx.uZ tx.dA.kp tx.vC (ac (au 0) (ac (au 2) ak))))) (λ _=>rfl))
  (@bL _ _ _ _ (S.retO 1))))
noncomputable abbrev xw:List Str:=["scene", "name", "around"]
theorem qp:aI xw jF (af rj):=b6
noncomputable def lN (a7:PFn) (aG:PFn):En->Option Out :=
 (c9 (hE 2 (l2 pIx (lA a7 (aC (eV 0) (aC (eV 1) aN))) (eC (.int 1))))
  (c9 (sIf (bT (l2 pEq (eV 2) (eC (.str "")))) (ic (oE (λ η=>((aC (eV 1) aN) η).bind gL))) sNx)
  (ic (l2 aW (lA aG (aC (eV 0) (aC (eV 2) aN))) (oE (λ η=>((aC (eV 1) aN) η).bind gL))))))
include tx bn cO aJ a8 in
theorem vP:FnOk Pr w K mg base CX0 (k+1) t.gK t.gE jF (spP K (dh 2 3 (lN a7 aG))) :=
 fnP tx.aq qp λ _ _ _ _ _ _ _ hr =>
  (@ba _ _ _ _ _ _ (jU 2 qp.nd (df (aV bn hr cO tx.jv tx.ay.kp tx.jw (ac (au 0) (ac (au 1) ak))) (dG tx.c_AROUND)))
  (@ba _ _ _ _ _ _ (@S.ifS _ _ _ _ _ _ _ _ _ (sX hr (au 2) fZ) (@bL _ _ _ _ (jx (bm (ce (ac (au 1) ak))))) Ss.nil)
  (@bL _ _ _ _ (jx (eN (aV aJ hr a8 tx.fB tx.aq.kp tx.fI (ac (au 0) (ac (au 2) ak))) (bm (ce (ac (au 1) ak))))))))
noncomputable abbrev v6:List Str:=["scene", "name", "mark"]
theorem uF:aI v6 i4 (af qr):=b6
noncomputable def nt (a7:PFn):En->Option Out :=
 (ic (l2 (pIn false) (eV 2) (l2 pIx (lA a7 (aC (eV 0) (aC (eV 1) aN))) (eC (.int 6)))))
include tx bn cO in
theorem uT:FnOk Pr w K mg base CX0 (k+1) t.fU t.fO i4 (spP K (dh 3 3 (nt a7))) :=
 fnP tx.aQ uF λ _ _ _ _ _ _ _ hr =>
  (@bL _ _ _ _ (jx (E.in (au 2) (df (aV bn hr cO tx.jv tx.ay.kp tx.jw (ac (au 0) (ac (au 1) ak))) (dG tx.c_MARKS)))))
noncomputable abbrev qH:List Str:=["scene", "name"]
theorem uE:aI qH i0 (af m8):=b6
noncomputable def nq (aG:PFn) (cb:PFn):En->Option Out :=
 (ic (Au (lA BS (aC (oE (bj [none,some 0] (lI asL (lA aG (aC (eV 0) (aC (eV 1) aN)))) (tgN 0) cy (lA cb (aC (eV 1) (aC (eV 0) (aC (eC (.str "h")) aN)))))) aN))))
include tx aJ a8 cL gw in
theorem uR:FnOk Pr w K mg base CX0 (k+1) t.fR t.fM i0 (spP K (dh 2 2 (nq aG cb))) :=
 fnP tx.eM uE λ _ _ _ _ _ _ _ hr =>
  (@bL _ _ _ _ (jx (E.not (E.any rfl tx.z_any (ac (bm (gh (N':=["step", "scene"]) (mp:=[none,some 0]) rfl (a6 qH (af m8) rfl rfl (by decide +kernel)) (ax (i:=0)) (by decide) (I.list (aV aJ hr a8 tx.fB tx.aq.kp tx.fI (ac (au 0) (ac (au 1) ak)))) (λ _ _ _=>⟨(aH (i:=0) (show (["step", "scene"]:List Str).Nodup by decide +kernel) rfl (Or.inl rfl) (.inr rfl)),Ts.nil,(aV cL hr gw tx.ni tx.aQ.kp tx.nv (ac (au 1) (ac (au 0) (ac (E.globS tx.c_HIDDEN) ak))))⟩))) ak)))))
noncomputable abbrev lS:List Str:=["scene", "name", "path", "left", "top", "last"]
theorem iZ:aI lS jJ (af jB):=b6
noncomputable def lP (aG:PFn) (a7:PFn):En->Option Out :=
 (c9 (lh 2 (bj [none,some 0] (lI asL (lA aG (aC (eV 0) (aC (eV 1) aN)))) (tgN 0) cy (lA a7 (aC (eV 1) (aC (eV 0) aN)))))
  (λ η=>(c9 (hE 3 (lA wP (aC (oE (bj [none] (lI asL (eV 2)) (tgN 0) cy (l2 pIx (eV 0) (eC (.int 2))))) aN)))
  (c9 (hE 4 (lA wP (aC (oE (bj [none] (lI asL (eV 2)) (tgN 0) cy (l2 pIx (eV 0) (eC (.int 3))))) aN)))
  (c9 (hE 5 (lA a7 (aC (eV 0) (aC (eV 1) aN))))
  (ic (lA (λ ds=>if ds.length<=IB then some (.tuple ds) else none) (aC (eV 3) (aC (eV 4) (aC (l2 aW (eV 3) (l2 pIx (eV 5) (eC (.int 4)))) (aC (l2 aW (eV 4) (l2 pIx (eV 5) (eC (.int 5)))) aN))))))))) (frz 2 η)))
include tx bn cO aJ a8 in
theorem vT:FnOk Pr w K mg base CX0 (k+1) t.gP t.gI jJ (spP K (dh 2 6 (lP aG a7))) :=
 fnP tx.cm iZ λ _ _ _ _ _ _ _ hr =>
  (@ba _ _ _ _ _ _ (S.setC 2 (N':=["step", "scene"]) (mp:=[none,some 0]) rfl iZ.nd (a6 lS (af jB) rfl rfl (by decide +kernel)) (ax (i:=0)) (by decide) (I.list (aV aJ hr a8 tx.fB tx.aq.kp tx.fI (ac (au 0) (ac (au 1) ak)))) (λ _ _ _=>⟨(aH (i:=0) (show (["step", "scene"]:List Str).Nodup by decide +kernel) rfl (Or.inl rfl) (.inr rfl)),Ts.nil,(aV bn hr cO tx.jv tx.ay.kp tx.jw (ac (au 1) (ac (au 0) ak)))⟩))
  (@Ss.frz _ _ _ _ 2 (@ba _ _ _ _ _ _ (jU 3 iZ.nd (E.sum rfl tx.z_sum (ac (bm (gh (N':=["box"]) (mp:=[none]) rfl (a6 lS (af jB) rfl rfl (by decide +kernel)) (ax (i:=0)) (by decide) (I.list (au 2)) (λ _ _ _=>⟨(aH (i:=0) (show (["box"]:List Str).Nodup by decide +kernel) rfl (Or.inl rfl) (.inr rfl)),Ts.nil,(df (au 0) (dG tx.c_LEFT))⟩))) ak)))
  (@ba _ _ _ _ _ _ (jU 4 iZ.nd (E.sum rfl tx.z_sum (ac (bm (gh (N':=["box"]) (mp:=[none]) rfl (a6 lS (af jB) rfl rfl (by decide +kernel)) (ax (i:=0)) (by decide) (I.list (au 2)) (λ _ _ _=>⟨(aH (i:=0) (show (["box"]:List Str).Nodup by decide +kernel) rfl (Or.inl rfl) (.inr rfl)),Ts.nil,(df (au 0) (dG tx.c_TOP))⟩))) ak)))
  (@ba _ _ _ _ _ _ (jU 5 iZ.nd (aV bn hr cO tx.jv tx.ay.kp tx.jw (ac (au 0) (ac (au 1) ak))))
  (@bL _ _ _ _ (jx (g7 (ac (au 3) (ac (au 4) (ac (eN (au 3) (df (au 5) (dG tx.c_WIDTH))) (ac (eN (au 4) (df (au 5) (dG tx.c_HEIGHT))) ak))))))))))))
noncomputable abbrev xy:List Str:=["one", "other", "left", "top"]
theorem m7:aI xy jH (af ro):=b6
noncomputable def om  : En->Option Out :=
 (c9 (hE 2 (lA DF (aC (l2 pIx (eV 0) (eC (.int 0))) (aC (l2 pIx (eV 1) (eC (.int 0))) aN))))
  (c9 (hE 3 (lA DF (aC (l2 pIx (eV 0) (eC (.int 1))) (aC (l2 pIx (eV 1) (eC (.int 1))) aN))))
  (ic (lA (λ ds=>if ds.length<=IB then some (.tuple ds) else none) (aC (eV 2) (aC (eV 3) (aC (lA DE (aC (l2 pIx (eV 0) (eC (.int 2))) (aC (l2 pIx (eV 1) (eC (.int 2))) aN))) (aC (lA DE (aC (l2 pIx (eV 0) (eC (.int 3))) (aC (l2 pIx (eV 1) (eC (.int 3))) aN))) aN))))))))
include tx in
theorem vR:FnOk Pr w K mg base CX0 (k+1) t.gN t.gG jH (spP K (dh 2 4 (om))) :=
 fnP tx.eJ m7 λ _ _ _ _ _ _ _ hr =>
  (@ba _ _ _ _ _ _ (jU 2 m7.nd (E.max rfl tx.z_max (ac (df (au 0) aF) (ac (df (au 1) aF) ak))))
  (@ba _ _ _ _ _ _ (jU 3 m7.nd (E.max rfl tx.z_max (ac (df (au 0) aF) (ac (df (au 1) aF) ak))))
  (@bL _ _ _ _ (jx (g7 (ac (au 2) (ac (au 3) (ac (E.min rfl tx.z_min (ac (df (au 0) aF) (ac (df (au 1) aF) ak))) (ac (E.min rfl tx.z_min (ac (df (au 0) aF) (ac (df (au 1) aF) ak))) ak)))))))))
noncomputable abbrev vH:List Str:=["scene", "name", "window", "step"]
theorem ja:aI vH ie (af o7):=b6
noncomputable def mn (i8:PFn) (aG:PFn) (cb:PFn) (kG:PFn):En->Option Out :=
 (c9 (hE 2 (lA i8 (aC (eV 0) (aC (eV 1) aN))))
  (c9 (oR (lI asL (lA aG (aC (eV 0) (aC (eV 1) aN)))) (tgN 3)
  (sIf (bT (lA cb (aC (eV 0) (aC (eV 3) (aC (eC (.str "c")) aN))))) (hE 2 (lA kG (aC (eV 2) (aC (lA i8 (aC (eV 0) (aC (eV 3) aN))) aN)))) sNx))
  (ic (eV 2))))
include tx aJ a8 cL gw jY nl lV qD in
theorem tX:FnOk Pr w K mg base CX0 (k+1) t.e7 t.eW ie (spP K (dh 2 4 (mn i8 aG cb kG))) :=
 fnP tx.dN ja λ _ _ _ _ _ _ _ hr =>
  (@ba _ _ _ _ _ _ (jU 2 ja.nd (aV jY hr nl tx.rM tx.cm.kp tx.r6 (ac (au 0) (ac (au 1) ak))))
  (@ba _ _ _ _ _ _ (@S.for _ _ _ _ _ _ _ _ _ _ _ Jk rfl (I.list (aV aJ hr a8 tx.fB tx.aq.kp tx.fI (ac (au 0) (ac (au 1) ak)))) (aH (i:=3) ja.nd rfl (by first | exact Or.inl rfl | exact Or.inr rfl) ) (ax (i:=3))
  (@bL _ _ _ _ (@S.ifS _ _ _ _ _ _ _ _ _ (pV (aV cL hr gw tx.ni tx.aQ.kp tx.nv (ac (au 0) (ac (au 3) (ac (E.globS tx.c_CUTS_OFF) ak))))) (@bL _ _ _ _ (jU 2 ja.nd (aV lV hr qD tx.wX tx.eJ.kp tx.xq (ac (au 2) (ac (aV jY hr nl tx.rM tx.cm.kp tx.r6 (ac (au 0) (ac (au 3) ak))) ak))))) Ss.nil)) (λ _=>rfl))
  (@bL _ _ _ _ (jx (au 2)))))
noncomputable abbrev pW:List Str:=["scene", "names"]
theorem rg:aI pW kL (af mK):=b6
noncomputable def pO (kF:PFn) (jR:PFn) (cb:PFn) (je:PFn):En->Option Out :=
 (c9 (lh 1 (bj [none,some 0] (λ η=>((aC (lA kF (aC (eV 0) aN)) aN) η).bind rvS) (tgN 0) (bT (lA jR (aC (eV 1) (aC (eV 0) aN)))) (eV 0)))
  (λ η=>(ic (oE (bj [none,some 0] (lI asL (eV 1)) (tgN 0) (v0 (bT (lA cb (aC (eV 1) (aC (eV 0) (aC (eC (.str "l")) aN)))))) (lA (λ ds=>if ds.length<=IB then some (.tuple ds) else none) (aC (eV 0) (aC (lA je (aC (eV 1) (aC (eV 0) aN))) aN)))))) (frz 1 η)))
include tx cL gw lU qC kH pL jW oK in
theorem wT:FnOk Pr w K mg base CX0 (k+1) t.iy t.ir kL (spP K (dh 1 2 (pO kF jR cb je))) :=
 fnP tx.iC rg λ _ _ _ _ _ _ _ hr =>
  (@ba _ _ _ _ _ _ (S.setC 1 (N':=["name", "scene"]) (mp:=[none,some 0]) rfl rg.nd (a6 pW (af mK) rfl rfl (by decide +kernel)) (ax (i:=0)) (by decide) (I.rev rfl tx.z_reversed (ac (aV lU hr qC tx.wW tx.dE.kp tx.xp (ac (au 0) ak)) ak)) (λ _ _ _=>⟨(aH (i:=0) (show (["name", "scene"]:List Str).Nodup by decide +kernel) rfl (Or.inl rfl) (.inr rfl)),(Ts.one (pV (aV kH hr pL tx.vU tx.eM.kp tx.vY (ac (au 1) (ac (au 0) ak))))),(au 0)⟩))
  (@Ss.frz _ _ _ _ 1 (@bL _ _ _ _ (jx (bm (gh (N':=["name", "scene"]) (mp:=[none,some 0]) rfl (a6 pW (af mK) rfl rfl (by decide +kernel)) (ax (i:=0)) (by decide) (I.list (au 1)) (λ _ _ _=>⟨(aH (i:=0) (show (["name", "scene"]:List Str).Nodup by decide +kernel) rfl (Or.inl rfl) (.inr rfl)),(Ts.one (T.not (pV (aV cL hr gw tx.ni tx.aQ.kp tx.nv (ac (au 1) (ac (au 0) (ac (E.globS tx.c_LETS_BY) ak))))))),(g7 (ac (au 0) (ac (aV jW hr oK tx.uX tx.dN.kp tx.vA (ac (au 1) (ac (au 0) ak))) ak)))⟩)))))))
noncomputable abbrev vI:List Str:=["area", "x", "y"]
theorem tR:aI vI ig (af o8):=b6
noncomputable def mq  : En->Option Out :=
 (ic (qK (lch pLe pLt (l2 pIx (eV 0) (eC (.int 0))) (eV 1) (l2 pIx (eV 0) (eC (.int 2)))) (lch pLe pLt (l2 pIx (eV 0) (eC (.int 1))) (eV 2) (l2 pIx (eV 0) (eC (.int 3))))))
include tx in
theorem tY:FnOk Pr w K mg base CX0 (k+1) t.e9 t.eX ig (spP K (dh 3 3 (mq))) :=
 fnP tx.bi tR λ _ _ _ _ _ _ _ hr =>
  (@bL _ _ _ _ (jx (E.and (E.chain BT (wz λ _ _ _=>gz) ER (wz λ _ _ _=>gz) (df (au 0) aF) (au 1) (df (au 0) aF)) (E.one (E.chain BT (wz λ _ _ _=>gz) ER (wz λ _ _ _=>gz) (df (au 0) aF) (au 2) (df (au 0) aF))))))
noncomputable abbrev v7:List Str:=["rows", "x", "y", "name", "window"]
theorem l0:aI v7 i5 (af qt):=b6
noncomputable def i7 (jf:PFn):En->Option Out :=
 (c9 (oR (lI asL (eV 0)) (tgT (aO (tgN 3) (aO (tgN 4) gi)))
  (sIf (bT (lA jf (aC (eV 4) (aC (eV 1) (aC (eV 2) aN))))) (ic (eV 3)) sNx))
  (ic (eC .none)))
include tx jX oM in
theorem uU:FnOk Pr w K mg base CX0 (k+1) t.fV t.fP i5 (spP K (dh 3 5 (i7 jf))) :=
 fnP tx.fY l0 λ _ _ _ _ _ _ _ hr =>
  (@ba _ _ _ _ _ _ (@S.for _ _ _ _ _ _ _ _ _ _ _ Jk rfl (I.list (au 0)) (n8 (n:=2) rfl (db (aH (i:=3) l0.nd rfl (by first | exact Or.inl rfl | exact Or.inr rfl) ) (db (aH (i:=4) l0.nd rfl (by first | exact Or.inl rfl | exact Or.inr rfl) ) lE))) (TgP.tup (n:=2) (b7 (ax (i:=3)) (b7 (ax (i:=4)) TgsP.nil)) (lz))
  (@bL _ _ _ _ (@S.ifS _ _ _ _ _ _ _ _ _ (pV (aV jX hr oM tx.uY tx.bi.kp tx.vB (ac (au 4) (ac (au 1) (ac (au 2) ak))))) (@bL _ _ _ _ (jx (au 3))) Ss.nil)) (λ _=>rfl))
  (@bL _ _ _ _ (jx nZ)))
noncomputable abbrev CT:List Str:=["scene", "x", "y"]
theorem Az:aI CT pf (af xL):=b6
noncomputable def vk (lQ:PFn) (jS:PFn):En->Option Out :=
 (ic (lA jS (aC (lA lQ (aC (eV 0) aN)) (aC (eV 1) (aC (eV 2) aN)))))
include tx m5 rX kI pM in
theorem AJ:FnOk Pr w K mg base CX0 (k+1) t.mD t.mw pf (spP K (dh 3 3 (vk lQ jS))) :=
 fnP tx.mF Az λ _ _ _ _ _ _ _ hr =>
  (@bL _ _ _ _ (jx (aV kI hr pM tx.vV tx.fY.kp tx.vZ (ac (aV m5 hr rX tx.ya tx.iC.kp tx.yE (ac (au 0) ak)) (ac (au 1) (ac (au 2) ak))))))
noncomputable abbrev v5:List Str:=["scene", "x", "y", "name"]
theorem o0:aI v5 i3 (af qq):=b6
noncomputable def nr (p8:PFn) (aG:PFn):En->Option Out :=
 (c9 (hE 3 (lA p8 (aC (eV 0) (aC (eV 1) (aC (eV 2) aN)))))
  (ic (vIf (bT (l2 (ss false) (eV 3) (eC .none))) (oE (λ η=>(aN η).bind gL)) (lA aG (aC (eV 0) (aC (eV 3) aN))))))
include tx aJ a8 si wn in
theorem uS:FnOk Pr w K mg base CX0 (k+1) t.fS t.fN i3 (spP K (dh 3 4 (nr p8 aG))) :=
 fnP tx.aL o0 λ _ _ _ _ _ _ _ hr =>
  (@ba _ _ _ _ _ _ (jU 3 o0.nd (aV si hr wn tx.B1 tx.mF.kp tx.CG (ac (au 0) (ac (au 1) (ac (au 2) ak)))))
  (@bL _ _ _ _ (jx (E.ifE (T.isN (au 3) nZ) (bm (ce ak)) (aV aJ hr a8 tx.fB tx.aq.kp tx.fI (ac (au 0) (ac (au 3) ak)))))))
noncomputable abbrev yG:List Str:=["one", "other", "names", "name", "counterpart"]
theorem lB:aI yG kM (af tu):=b6
noncomputable def pP  : En->Option Out :=
 (c9 (lh 2 (λ η=>(aN η).bind gL))
  (c9 (oR (λ η=>((aC (eV 0) (aC (eV 1) aN)) η).bind zpL) (tgT (aO (tgN 3) (aO (tgN 4) gi)))
  (c9 (sIf (bT (l2 pNe (eV 3) (eV 4))) sBk sNx)
  (Bq 2 (eV 3))))
  (xM 2)))
include tx in
theorem wU:FnOk Pr w K mg base CX0 (k+1) t.iz t.iu kM (spP K (dh 2 5 (pP))) :=
 fnP tx.eL lB λ _ _ _ _ _ _ _ hr =>
  (@ba _ _ _ _ _ _ (S.setO 2 lB.nd (ce ak))
  (@ba _ _ _ _ _ _ (@S.for _ _ _ _ _ _ _ _ _ _ _ Jk rfl (I.zip tx.z_zip (ac (au 0) (ac (au 1) ak))) (n8 (n:=2) rfl (db (aH (i:=3) lB.nd rfl (by first | exact Or.inl rfl | exact Or.inr rfl) ) (db (aH (i:=4) lB.nd rfl (by first | exact Or.inl rfl | exact Or.inr rfl) ) lE))) (TgP.tup (n:=2) (b7 (ax (i:=3)) (b7 (ax (i:=4)) TgsP.nil)) (lz))
  (@ba _ _ _ _ _ _ (@S.ifS _ _ _ _ _ _ _ _ _ (T.ne hr (au 3) (au 4)) (@bL _ _ _ _ S.brk) Ss.nil)
  (@bL _ _ _ _ (S.app 2 (au 3)))) (λ _=>rfl))
  (@bL _ _ _ _ (S.retO 2))))
noncomputable abbrev kZ:List Str:=["self", "path", "stays", "leaves"]
theorem kf:aI kZ gY (af jb):=b6
noncomputable def kU (gB:PFn):Wd->Option MOut :=
 (bb (dP 2 (mP (lA tW (aC (lA gB (aC (dQ 0 "trail") (aC (eV 1) aN))) aN))))
  (bb (dP 3 (mC (bj [none] (λ η=>((aC (eSl (dQ 0 "trail") (pS (eV 2)) pN) aN) η).bind rvS) (tgN 0) cy (lA (λ ds=>if ds.length<=IB then some (.tuple ds) else none) (aC (eC (.str "leave")) (aC (eV 0) aN))))))
  (bb (hG 0 "trail" (mV 0) (mP (lA wQ (aC (eV 1) aN))))
  (kj (mP (l2 aW (eV 3) (oE (bj [none] (lI asL (eSl (eV 1) (pS (eV 2)) pN)) (tgN 0) cy (lA (λ ds=>if ds.length<=IB then some (.tuple ds) else none) (aC (eC (.str "enter")) (aC (eV 0) aN)))))))))))
include tx iB lM in
theorem sx:FnOk Pr w K mg base CX0 (k+1) t.d7 t.dX gY (spM K (cl t) (cZ 2 4 (kU gB))) :=
 fnM tx.aZ kf λ _ _ _ _ _ _ hr =>
  (@ag _ _ _ _ _ _ (bM 2 kf.nd (aj λ _=>(E.len tx.z_len (ac (aV iB hr lM tx.tD tx.eL.kp tx.tQ (ac (g8 0) (ac (au 1) ak))) ak))))
  (@ag _ _ _ _ _ _ (@MS.setC _ _ _ _ _ _ _ ["name"] [none] _ _ _ _ _ _ _ 3 _ _ _ rfl kf.nd (a6 kZ (af jb) rfl rfl (by decide +kernel)) (ax (i:=0)) (by decide) (λ _=>(I.rev rfl tx.z_reversed (ac (E.sl (g8 0) (P.some (au 2)) P.none) ak))) (λ _ _ _ _=>⟨(aH (i:=0) (show (["name"]:List Str).Nodup by decide +kernel) rfl (Or.inl rfl) (.inr rfl)),Ts.nil,(g7 (ac fZ (ac (au 0) ak)))⟩) rfl rfl rfl (λ _=>rfl))
  (@ag _ _ _ _ _ _ (c0 (k:=0) (bv 0) (aj λ _=>(E.listL tx.z_list (ac (au 1) ak))) tx.na_Hand_trail)
  (@aA _ _ _ _ (fe (aj λ _=>(eN (au 3) (bm (gh (N':=["name"]) (mp:=[none]) rfl (a6 kZ (af jb) rfl rfl (by decide +kernel)) (ax (i:=0)) (by decide) (I.list (E.sl (au 1) (P.some (au 2)) P.none)) (λ _ _ _=>⟨(aH (i:=0) (show (["name"]:List Str).Nodup by decide +kernel) rfl (Or.inl rfl) (.inr rfl)),Ts.nil,(g7 (ac fZ (ac (au 0) ak)))⟩))))))))))
noncomputable abbrev nY:List Str:=["self", "hand", "moment", "x", "y", "one", "path"]
theorem jy:aI nY gk (af kh):=b6
noncomputable def iE (aX:DFn) (aK:DFn) (b9:PFn) (bz:DFn):Wd->Option MOut :=
 (bb (dP 5 (bG 1 "hand_of" aX (mV 0) (maC (mP (eV 1)) maN)))
  (bb (mIf (tPv (bT (l2 (ss true) (dQ 5 "held_by") (eC .none)))) (kj (mFz (bG 0 "tell_holder" aK (mV 5) (maC (mP (eC (.str "move"))) maN)))) mNx)
  (bb (dP 6 (mP (lA b9 (aC (dQ 0 "scene") (aC (eV 3) (aC (eV 4) aN))))))
  (kj (mOp aW (bG 0 "lead" bz (mV 5) (maC (mP (eV 6)) maN)) (mP (oE (bj [none] (lI asL (eSl (eV 6) (pS (l1 xU (eC (.int 1)))) pN)) (tgN 0) cy (lA (λ ds=>if ds.length<=IB then some (.tuple ds) else none) (aC (eC (.str "move")) (aC (eV 0) aN)))))))))))
include tx a5 cz aM bF cK gu bO eO in
theorem rA:FnOk Pr w K mg base CX0 (k+1) t.dr t.di gk (spM K (cl t) (cZ 5 7 (iE aX aK b9 bz))) :=
 fnM tx.cB jy λ _ _ _ _ _ _ hr =>
  (@ag _ _ _ _ _ _ (bM 5 jy.nd (cH (kc:=1) (bv 0) tx.cl_Hands tx.ik a5 hr cz tx.iX (ao (aj λ _=>(au 1)) bw)))
  (@ag _ _ _ _ _ _ (@gx _ _ _ _ _ _ _ _ _ (jV λ _=>(T.notN (g8 5) nZ)) (@aA _ _ _ _ (fe (ME.fz (cH (kc:=0) (bv 5) tx.cl_Hand tx.gq aM hr bF tx.gJ (ao (aj λ _=>fZ) bw))))) gb)
  (@ag _ _ _ _ _ _ (bM 6 jy.nd (aj λ _=>(aV cK hr gu tx.nh tx.aL.kp tx.nu (ac (g8 0) (ac (au 3) (ac (au 4) ak))))))
  (@aA _ _ _ _ (fe (ME.add (cH (kc:=0) (bv 5) tx.cl_Hand tx.ki bO hr eO tx.kY (ao (aj λ _=>(au 6)) bw)) (aj λ _=>(bm (gh (N':=["name"]) (mp:=[none]) rfl (a6 nY (af kh) rfl rfl (by decide +kernel)) (ax (i:=0)) (by decide) (I.list (E.sl (au 6) (P.some (E.neg aF)) P.none)) (λ _ _ _=>⟨(aH (i:=0) (show (["name"]:List Str).Nodup by decide +kernel) rfl (Or.inl rfl) (.inr rfl)),Ts.nil,(g7 (ac fZ (ac (au 0) ak)))⟩))))))))))
noncomputable abbrev sY:List Str:=["self", "hand", "moment", "x", "y", "one", "path", "rows"]
theorem fq:aI sY gl (af nB):=b6
noncomputable def iF (aX:DFn) (b9:PFn) (bz:DFn) (aK:DFn):Wd->Option MOut :=
 (bb (dP 5 (bG 1 "hand_of" aX (mV 0) (maC (mP (eV 1)) maN)))
  (bb (mIf (tPv (bT (l2 (ss true) (dQ 5 "pressed_at") (eC .none)))) (kj (mP (oE (λ η=>(aN η).bind gL)))) mNx)
  (bb (dP 6 (mP (lA b9 (aC (dQ 0 "scene") (aC (eV 3) (aC (eV 4) aN))))))
  (bb (hG 0 "pressed_at" (mV 5) (mP (eV 6)))
  (bb (dP 7 (mP (oE (λ η=>(aN η).bind gL))))
  (bb (mIf (tPv (bT (l2 (ss false) (dQ 5 "held_by") (eC .none)))) (bb (dP 7 (bG 0 "lead" bz (mV 5) (maC (mP (eV 6)) maN)))
  (hG 0 "held_by" (mV 5) (mP (vIf (bTr (eV 6)) (l2 pIx (eV 6) (l1 xU (eC (.int 1)))) (eC .none))))) mNx)
  (kj (mOp aW (mP (eV 7)) (mFz (bG 0 "tell_holder" aK (mV 5) (maC (mP (eC (.str "down"))) maN)))))))))))
include tx a5 cz aM bF cK gu bO eO in
theorem rB:FnOk Pr w K mg base CX0 (k+1) t.dt t.dj gl (spM K (cl t) (cZ 5 8 (iF aX b9 bz aK))) :=
 fnM tx.bP fq λ _ _ _ _ _ _ hr =>
  (@ag _ _ _ _ _ _ (bM 5 fq.nd (cH (kc:=1) (bv 0) tx.cl_Hands tx.ik a5 hr cz tx.iX (ao (aj λ _=>(au 1)) bw)))
  (@ag _ _ _ _ _ _ (@gx _ _ _ _ _ _ _ _ _ (jV λ _=>(T.notN (g8 5) nZ)) (@aA _ _ _ _ (fe (aj λ _=>(bm (ce ak))))) gb)
  (@ag _ _ _ _ _ _ (bM 6 fq.nd (aj λ _=>(aV cK hr gu tx.nh tx.aL.kp tx.nu (ac (g8 0) (ac (au 3) (ac (au 4) ak))))))
  (@ag _ _ _ _ _ _ (c0 (k:=0) (bv 5) (aj λ _=>(au 6)) tx.na_Hand_pressed_at)
  (@ag _ _ _ _ _ _ (bM 7 fq.nd (aj λ _=>(bm (ce ak))))
  (@ag _ _ _ _ _ _ (@gx _ _ _ _ _ _ _ _ _ (jV λ _=>(T.isN (g8 5) nZ)) (@ag _ _ _ _ _ _ (bM 7 fq.nd (cH (kc:=0) (bv 5) tx.cl_Hand tx.ki bO hr eO tx.kY (ao (aj λ _=>(au 6)) bw)))
  (@aA _ _ _ _ (c0 (k:=0) (bv 5) (aj λ _=>(E.ifE (T.tru (au 6)) (df (au 6) (E.neg aF)) nZ)) tx.na_Hand_held_by))) gb)
  (@aA _ _ _ _ (fe (ME.add (aj λ _=>(au 7)) (ME.fz (cH (kc:=0) (bv 5) tx.cl_Hand tx.gq aM hr bF tx.gJ (ao (aj λ _=>fZ) bw))))))))))))
noncomputable abbrev se:List Str:=["self", "path", "names"]
theorem l4:aI se fw (af mL):=b6
noncomputable def jQ (gB:PFn):Wd->Option MOut :=
 (bb (dP 2 (mP (lA gB (aC (dQ 0 "pressed_at") (aC (eV 1) aN)))))
  (bb (hG 0 "pressed_at" (mV 0) (mP (eC .none)))
  (bb (hG 0 "held_by" (mV 0) (mP (eC .none)))
  (kj (mP (eSl (eV 2) (pS (l1 xU (eC (.int 1)))) pN))))))
include tx iB lM in
theorem qN:FnOk Pr w K mg base CX0 (k+1) t.cS t.cQ fw (spM K (cl t) (cZ 2 3 (jQ gB))) :=
 fnM tx.cV l4 λ _ _ _ _ _ _ hr =>
  (@ag _ _ _ _ _ _ (bM 2 l4.nd (aj λ _=>(aV iB hr lM tx.tD tx.eL.kp tx.tQ (ac (g8 0) (ac (au 1) ak)))))
  (@ag _ _ _ _ _ _ (c0 (k:=0) (bv 0) (aj λ _=>nZ) tx.na_Hand_pressed_at)
  (@ag _ _ _ _ _ _ (c0 (k:=0) (bv 0) (aj λ _=>nZ) tx.na_Hand_held_by)
  (@aA _ _ _ _ (fe (aj λ _=>(E.sl (au 2) (P.some (E.neg aF)) P.none)))))))
noncomputable abbrev sZ:List Str:=["self", "name", "moment", "is_soon", "is_double"]
theorem jz:aI sZ gm (af nC):=b6
noncomputable def kn  : Wd->Option MOut :=
 (bb (dP 3 (mP (l2 pLe (l2 vO (eV 2) (dQ 0 "clicked_moment")) (eC (.int 20)))))
  (bb (dP 4 (mP (qK (l2 pEq (dQ 0 "clicked") (eV 1)) (qK (eV 3) (Au (dQ 0 "was_double"))))))
  (bb (hG 0 "clicked" (mV 0) (mP (eV 1)))
  (bb (hG 0 "clicked_moment" (mV 0) (mP (eV 2)))
  (bb (hG 0 "was_double" (mV 0) (mP (eV 4)))
  (kj (mP (vIf (bTr (eV 4)) (oE (λ η=>((aC (lA (λ ds=>if ds.length<=IB then some (.tuple ds) else none) (aC (eC (.str "click")) (aC (eV 1) aN))) (aC (lA (λ ds=>if ds.length<=IB then some (.tuple ds) else none) (aC (eC (.str "double")) (aC (eV 1) aN))) aN)) η).bind gL)) (oE (λ η=>((aC (lA (λ ds=>if ds.length<=IB then some (.tuple ds) else none) (aC (eC (.str "click")) (aC (eV 1) aN))) aN) η).bind gL))))))))))
include tx in
theorem rC:FnOk Pr w K mg base CX0 (k+1) t.du t.dk gm (spM K (cl t) (cZ 3 5 (kn))) :=
 fnM tx.bQ jz λ _ _ _ _ _ _ hr =>
  (@ag _ _ _ _ _ _ (bM 3 jz.nd (aj λ _=>(E.le (E.sub (au 2) (g8 0)) (dG tx.c_LONGEST_DOUBLE))))
  (@ag _ _ _ _ _ _ (bM 4 jz.nd (aj λ _=>(E.and (E.eq hr (g8 0) (au 1)) (E.and (au 3) (E.one (E.not (g8 0)))))))
  (@ag _ _ _ _ _ _ (c0 (k:=0) (bv 0) (aj λ _=>(au 1)) tx.na_Hand_clicked)
  (@ag _ _ _ _ _ _ (c0 (k:=0) (bv 0) (aj λ _=>(au 2)) tx.na_Hand_clicked_moment)
  (@ag _ _ _ _ _ _ (c0 (k:=0) (bv 0) (aj λ _=>(au 4)) tx.na_Hand_was_double)
  (@aA _ _ _ _ (fe (aj λ _=>(E.ifE (T.tru (au 4)) (bm (ce (ac (g7 (ac fZ (ac (au 1) ak))) (ac (g7 (ac fZ (ac (au 1) ak))) ak)))) (bm (ce (ac (g7 (ac fZ (ac (au 1) ak))) ak))))))))))))
noncomputable abbrev vK:List Str:=["self", "hand", "moment", "x", "y", "one", "path", "rows", "name"]
theorem gS:aI vK ij (af pe):=b6
noncomputable def jP (aX:DFn) (b9:PFn) (aK:DFn) (gC:DFn) (hX:DFn) (bz:DFn):Wd->Option MOut :=
 (bb (dP 5 (bG 1 "hand_of" aX (mV 0) (maC (mP (eV 1)) maN)))
  (bb (mIf (tPv (bT (l2 (ss false) (dQ 5 "pressed_at") (eC .none)))) (kj (mP (oE (λ η=>(aN η).bind gL)))) mNx)
  (bb (dP 6 (mP (lA b9 (aC (dQ 0 "scene") (aC (eV 3) (aC (eV 4) aN))))))
  (bb (dP 7 (bG 0 "tell_holder" aK (mV 5) (maC (mP (eC (.str "up"))) maN)))
  (bb (oV [8] (iM (bG 0 "let_go" gC (mV 5) (maC (mP (eV 6)) maN))) (tgN 8)
  (km (qv (mV 7) (bG 0 "click" hX (mV 5) (maC (mP (eV 8)) (maC (mP (eV 2)) maN))))))
  (kj (mOp aW (mFz (mV 7)) (bG 0 "lead" bz (mV 5) (maC (mP (eV 6)) maN)))))))))
include tx a5 cz aM bF cK gu bO eO ia mj iN mU in
theorem t0:FnOk Pr w K mg base CX0 (k+1) t.fc t.eZ ij (spM K (cl t) (cZ 5 9 (jP aX b9 aK gC hX bz))) :=
 fnM tx.dO gS λ _ _ _ _ _ _ hr =>
  (@ag _ _ _ _ _ _ (bM 5 gS.nd (cH (kc:=1) (bv 0) tx.cl_Hands tx.ik a5 hr cz tx.iX (ao (aj λ _=>(au 1)) bw)))
  (@ag _ _ _ _ _ _ (@gx _ _ _ _ _ _ _ _ _ (jV λ _=>(T.isN (g8 5) nZ)) (@aA _ _ _ _ (fe (aj λ _=>(bm (ce ak))))) gb)
  (@ag _ _ _ _ _ _ (bM 6 gS.nd (aj λ _=>(aV cK hr gu tx.nh tx.aL.kp tx.nu (ac (g8 0) (ac (au 3) (ac (au 4) ak))))))
  (@ag _ _ _ _ _ _ (bM 7 gS.nd (cH (kc:=0) (bv 5) tx.cl_Hand tx.gq aM hr bF tx.gJ (ao (aj λ _=>fZ) bw)))
  (@ag _ _ _ _ _ _ (@MS.for _ _ _ _ _ _ _ _ _ _ _ Jk rfl (MI.list (cH (kc:=0) (bv 5) tx.cl_Hand tx.qP ia hr mj tx.r8 (ao (aj λ _=>(au 6)) bw))) (aH (i:=8) gS.nd rfl (by first | exact Or.inl rfl | exact Or.inr rfl) ) (ax (i:=8))
  (@aA _ _ _ _ (kA (ME.extC (bv 7) (cH (kc:=0) (bv 5) tx.cl_Hand tx.rJ iN hr mU tx.sR (ao (aj λ _=>(au 8)) (ao (aj λ _=>(au 2)) bw)))))) (λ _=>rfl))
  (@aA _ _ _ _ (fe (ME.add (ME.fz (bv 7)) (cH (kc:=0) (bv 5) tx.cl_Hand tx.ki bO hr eO tx.kY (ao (aj λ _=>(au 6)) bw))))))))))
noncomputable abbrev uh:List Str:=["_law_hands", "_law_way", "_law_number", "_law_moment", "_law_x", "_law_y"]
theorem sk:aI uh gX (af oz):=b6
noncomputable def g6 (hV:DFn) (hW:DFn) (jh:DFn):Wd->Option MOut :=
 (bb (mIf (tPv (bT (l2 pEq (eV 1) (eC (.int 0))))) (kj (bG 1 "move" hV (mV 0) (maC (mP (eV 2)) (maC (mP (eV 3)) (maC (mP (eV 4)) (maC (mP (eV 5)) maN)))))) mNx)
  (bb (mIf (tPv (bT (l2 pEq (eV 1) (eC (.int 1))))) (kj (bG 1 "down" hW (mV 0) (maC (mP (eV 2)) (maC (mP (eV 3)) (maC (mP (eV 4)) (maC (mP (eV 5)) maN)))))) mNx)
  (kj (bG 1 "up" jh (mV 0) (maC (mP (eV 2)) (maC (mP (eV 3)) (maC (mP (eV 4)) (maC (mP (eV 5)) maN))))))))
include tx iK mS iL mT j0 oO in
theorem sw:FnOk Pr w K mg base CX0 (k+1) t.d6 t.dW gX (spM K (cl t) (cZ 6 6 (g6 hV hW jh))) :=
 fnM tx.cn sk λ _ _ _ _ _ _ hr =>
  (@ag _ _ _ _ _ _ (@gx _ _ _ _ _ _ _ _ _ (jV λ _=>(sX hr (au 1) aF)) (@aA _ _ _ _ (fe (cH (kc:=1) (bv 0) tx.cl_Hands tx.rG iK hr mS tx.sP (ao (aj λ _=>(au 2)) (ao (aj λ _=>(au 3)) (ao (aj λ _=>(au 4)) (ao (aj λ _=>(au 5)) bw))))))) gb)
  (@ag _ _ _ _ _ _ (@gx _ _ _ _ _ _ _ _ _ (jV λ _=>(sX hr (au 1) aF)) (@aA _ _ _ _ (fe (cH (kc:=1) (bv 0) tx.cl_Hands tx.rH iL hr mT tx.sQ (ao (aj λ _=>(au 2)) (ao (aj λ _=>(au 3)) (ao (aj λ _=>(au 4)) (ao (aj λ _=>(au 5)) bw))))))) gb)
  (@aA _ _ _ _ (fe (cH (kc:=1) (bv 0) tx.cl_Hands tx.t4 j0 hr oO tx.vE (ao (aj λ _=>(au 2)) (ao (aj λ _=>(au 3)) (ao (aj λ _=>(au 4)) (ao (aj λ _=>(au 5)) bw)))))))))
noncomputable abbrev sd:List Str:=["scene", "name"]
theorem vN:aI sd jI (af n4):=b6
noncomputable def on  : En->Option Out :=
 (ic (lA BS (aC (oE (bj [none,some 1] (lI qj (eV 0)) (tgN 0) cy (l2 pEq (l2 pIx (eV 0) (eC (.int 0))) (eV 1)))) aN)))
include tx in
theorem vS:FnOk Pr w K mg base CX0 (k+1) t.gO t.gH jI (spP K (dh 2 2 (on))) :=
 fnP tx.aU vN λ _ _ _ _ _ _ _ hr =>
  (@bL _ _ _ _ (jx (E.any rfl tx.z_any (ac (bm (gh (N':=["box", "name"]) (mp:=[none,some 1]) rfl (a6 sd (af n4) rfl rfl (by decide +kernel)) (ax (i:=0)) (by decide) (I.tup (au 0)) (λ _ _ _=>⟨(aH (i:=0) (show (["box", "name"]:List Str).Nodup by decide +kernel) rfl (Or.inl rfl) (.inr rfl)),Ts.nil,(E.eq hr (df (au 0) (dG tx.c_NAME)) (au 1))⟩))) ak))))
noncomputable abbrev ti:List Str:=["self"]
theorem ri:aI ti gp (af nF):=b6
noncomputable def nU  : Wd->Option MOut :=
 (kj (mP (dQ 0 "scene")))
include tx in
theorem rF:FnOk Pr w K mg base CX0 (k+1) t.dz t.dq gp (spM K (cl t) (cZ 1 1 (nU))) :=
 fnM tx.cE ri λ _ _ _ _ _ _ hr =>
  (@aA _ _ _ _ (fe (aj λ _=>(g8 0))))
noncomputable abbrev mE:List Str:=["self", "name", "word", "is_down", "wanted"]
theorem k7:aI mE eS (af jo):=b6
noncomputable def jq  : Wd->Option MOut :=
 (bb (dP 4 (mP (lA (λ ds=>if ds.length<=IB then some (.tuple ds) else none) (aC (eV 1) (aC (eV 2) (aC (eV 3) aN))))))
  (kj (mFz (DS 0 "hearers" [none,none,some 4] (tgT (aO (tgN 0) (aO (tgN 1) gi))) (bT (l2 pEq (eSl (eV 1) pN (pS (eC (.int 3)))) (eV 2))) (eV 0)))))
include tx in
theorem qd:FnOk Pr w K mg base CX0 (k+1) t.cu t.cq eS (spM K (cl t) (cZ 4 5 (jq))) :=
 fnM tx.cw k7 λ _ _ _ _ _ _ hr =>
  (@ag _ _ _ _ _ _ (bM 4 k7.nd (aj λ _=>(g7 (ac (au 1) (ac (au 2) (ac (au 3) ak))))))
  (@aA _ _ _ _ (fe (ME.fz (ME.itemsC (N':=["number", "hearer", "wanted"]) (mp:=[none,none,some 4]) (fld := "hearers") 0 rfl (a6 mE (af jo) rfl rfl (by decide +kernel)) (TgP.tup (n:=2) (b7 (ax (i:=0)) (b7 (ax (i:=1)) TgsP.nil)) (lz)) (by decide) (λ _ _ _ _=>⟨(n8 (n:=2) rfl (db (aH (i:=0) (show (["number", "hearer", "wanted"]:List Str).Nodup by decide +kernel) rfl (Or.inl rfl) (.inr rfl)) (db (aH (i:=1) (show (["number", "hearer", "wanted"]:List Str).Nodup by decide +kernel) rfl (Or.inl rfl) (.inr rfl)) lE))),(Ts.one (sX hr (E.sl (au 1) P.none (P.some (dG tx.c_DEEDS))) (au 2))),(au 0)⟩))))))
noncomputable abbrev sg:List Str:=["self", "number"]
theorem qL:aI sg fA (af mM):=b6
noncomputable def mZ  : Wd->Option MOut :=
 (bb (mIf (zb true (mP (eV 1)) (qS (mV 0) "hearers")) (λ _=>none) mNx)
  (km (EU (qS (mV 0) "hearers") (mP (eV 1)))))
include tx in
theorem qO:FnOk Pr w K mg base CX0 (k+1) t.cT t.cR fA (spM K (cl t) (cZ 2 2 (mZ))) :=
 fnM tx.fL qL λ _ _ _ _ _ _ hr =>
  (@ag _ _ _ _ _ _ (@gx _ _ _ _ _ _ _ _ _ (MT.notInC hr (aj λ _=>(au 1)) (ME.fld (bv 0))) (@aA _ _ _ _ MS.never) gb)
  (@aA _ _ _ _ (kA (ME.popC (ME.fld (bv 0)) (aj λ _=>(au 1))))))
noncomputable abbrev qZ:List Str:=["self", "deed", "course"]
theorem qb:aI qZ eT (af l8):=b6
noncomputable def jr (cF:DFn) (cJ:PFn) (cP:DFn):Wd->Option MOut :=
 (mIf (tPv (bT (l2 pEq (l2 pIx (eV 1) (eC (.int 0))) (eC (.str "keep"))))) (hG 2 "is_kept" (mV 2) (mP (eC (.bool true)))) (mIf (tPv (bT (l2 pEq (l2 pIx (eV 1) (eC (.int 0))) (eC (.str "stop"))))) (hG 2 "is_last_turn" (mV 2) (mP (eC (.bool true)))) (mIf (tPv (bT (l2 pEq (l2 pIx (eV 1) (eC (.int 0))) (eC (.str "stopnow"))))) (hG 2 "is_ended" (mV 2) (mP (eC (.bool true)))) (mIf (tPv (bT (l2 pEq (l2 pIx (eV 1) (eC (.int 0))) (eC (.str "unhear"))))) (km (bG 3 "unhear_if_there" cF (mV 0) (maC (mP (l2 pIx (eV 1) (eC (.int 1)))) maN))) (mIf (tPv (bT (lA cJ (aC (dQ 0 "scene") (aC (l2 pIx (eV 1) (eC (.int 1))) aN))))) (km (bG 3 "do_deed_on_box" cP (mV 0) (maC (mP (eV 1)) (maC (mV 2) maN)))) mNx)))))
include tx cU hU dD g9 c7 im in
theorem qe:FnOk Pr w K mg base CX0 (k+1) t.cv t.cr eT (spM K (cl t) (cZ 3 3 (jr cF cJ cP))) :=
 fnM tx.cx qb λ _ _ _ _ _ _ hr =>
  (@aA _ _ _ _ (@gx _ _ _ _ _ _ _ _ _ (jV λ _=>(sX hr (df (au 1) aF) fZ)) (@aA _ _ _ _ (c0 (k:=2) (bv 2) (aj λ _=>tq) tx.na_Course_is_kept)) (@aA _ _ _ _ (@gx _ _ _ _ _ _ _ _ _ (jV λ _=>(sX hr (df (au 1) aF) fZ)) (@aA _ _ _ _ (c0 (k:=2) (bv 2) (aj λ _=>tq) tx.na_Course_is_last_turn)) (@aA _ _ _ _ (@gx _ _ _ _ _ _ _ _ _ (jV λ _=>(sX hr (df (au 1) aF) fZ)) (@aA _ _ _ _ (c0 (k:=2) (bv 2) (aj λ _=>tq) tx.na_Course_is_ended)) (@aA _ _ _ _ (@gx _ _ _ _ _ _ _ _ _ (jV λ _=>(sX hr (df (au 1) aF) fZ)) (@aA _ _ _ _ (kA (cH (kc:=3) (bv 0) tx.cl_Hall tx.lG cU hr hU tx.my (ao (aj λ _=>(df (au 1) aF)) bw)))) (@aA _ _ _ _ (@gx _ _ _ _ _ _ _ _ _ (jV λ _=>(pV (aV dD hr g9 tx.oh tx.aU.kp tx.ou (ac (g8 0) (ac (df (au 1) aF) ak))))) (@aA _ _ _ _ (kA (cH (kc:=3) (bv 0) tx.cl_Hall tx.ma c7 hr im tx.mJ (ao (aj λ _=>(au 1)) (ao (bv 2) bw))))) gb))))))))))
noncomputable abbrev tf:List Str:=["self", "number", "course", "hearer", "deed"]
theorem jA:aI tf gn (af nE):=b6
noncomputable def ko (gD:DFn) (f9:DFn):Wd->Option MOut :=
 (bb (dP 3 (DW (qS (mV 0) "hearers") (mP (eV 1))))
  (bb (km (wg (qS (mV 2) "told") (mP (lA (λ ds=>if ds.length<=IB then some (.tuple ds) else none) (aC (eV 1) (aC (l2 pIx (eV 3) (eC (.int 0))) (aC (l2 pIx (eV 3) (eC (.int 1))) (aC (l2 pIx (eV 3) (eC (.int 2))) aN))))))))
  (bb (mIf (tPv (bT (l2 pIx (eV 3) (eC (.int 4))))) (km (bG 3 "unhear" gD (mV 0) (maC (mP (eV 1)) maN))) mNx)
  (oV [4] (iPu (lI qj (l2 pIx (eV 3) (eC (.int 3))))) (tgN 4)
  (km (bG 3 "do_deed" f9 (mV 0) (maC (mP (eV 4)) (maC (mV 2) maN))))))))
include tx ib ml gR lx in
theorem rE:FnOk Pr w K mg base CX0 (k+1) t.dw t.dm gn (spM K (cl t) (cZ 3 5 (ko gD f9))) :=
 fnM tx.cD jA λ _ _ _ _ _ _ hr =>
  (@ag _ _ _ _ _ _ (bM 3 jA.nd (ME.atC hr (ME.fld (bv 0)) (aj λ _=>(au 1))))
  (@ag _ _ _ _ _ _ (kA (ME.appC (ME.fld (bv 2)) (aj λ _=>(g7 (ac (au 1) (ac (df (au 3) (dG tx.c_BOX_halls)) (ac (df (au 3) (dG tx.c_WORD_halls)) (ac (df (au 3) (dG tx.c_IS_DOWN)) ak))))))))
  (@ag _ _ _ _ _ _ (@gx _ _ _ _ _ _ _ _ _ (jV λ _=>(pV (df (au 3) (dG tx.c_IS_ONCE)))) (@aA _ _ _ _ (kA (cH (kc:=3) (bv 0) tx.cl_Hall tx.qQ ib hr ml tx.r9 (ao (aj λ _=>(au 1)) bw)))) gb)
  (@aA _ _ _ _ (@MS.for _ _ _ _ _ _ _ _ _ _ _ Jk rfl (MI.pu λ _=>(I.tup (df (au 3) (dG tx.c_DEEDS)))) (aH (i:=4) jA.nd rfl (by first | exact Or.inl rfl | exact Or.inr rfl) ) (ax (i:=4))
  (@aA _ _ _ _ (kA (cH (kc:=3) (bv 0) tx.cl_Hall tx.qg gR hr lx tx.qY (ao (aj λ _=>(au 4)) (ao (bv 2) bw))))) (λ _=>rfl))))))
noncomputable abbrev pY:List Str:=["self", "box", "is_down", "course", "number"]
theorem j1:aI pY dL (af kK):=b6
noncomputable def fE (f8:DFn) (h8:DFn):Wd->Option MOut :=
 (oV [4] (iM (bG 3 "numbers" f8 (mV 0) (maC (mP (eV 1)) (maC (mP (dQ 3 "word")) (maC (mP (eV 2)) maN))))) (tgN 4)
  (mIf (xE (zb false (mP (eV 4)) (qS (mV 0) "hearers")) (tPv (v0 (bT (dQ 3 "is_ended"))))) (km (bG 3 "rouse" h8 (mV 0) (maC (mP (eV 4)) (maC (mV 3) maN)))) mNx))
include tx gQ lw iO mW in
theorem oT:FnOk Pr w K mg base CX0 (k+1) t.bK t.bI dL (spM K (cl t) (cZ 4 5 (fE f8 h8))) :=
 fnM tx.bN j1 λ _ _ _ _ _ _ hr =>
  (@aA _ _ _ _ (@MS.for _ _ _ _ _ _ _ _ _ _ _ Jk rfl (MI.list (cH (kc:=3) (bv 0) tx.cl_Hall tx.qf gQ hr lw tx.qX (ao (aj λ _=>(au 1)) (ao (aj λ _=>(g8 3)) (ao (aj λ _=>(au 2)) bw))))) (aH (i:=4) j1.nd rfl (by first | exact Or.inl rfl | exact Or.inr rfl) ) (ax (i:=4))
  (@aA _ _ _ _ (@gx _ _ _ _ _ _ _ _ _ (MTW.t (MTW.and (MT.inC hr (aj λ _=>(au 4)) (ME.fld (bv 0))) (MTW.and1 (jV λ _=>(T.not (pV (g8 3))))))) (@aA _ _ _ _ (kA (cH (kc:=3) (bv 0) tx.cl_Hall tx.rK iO hr mW tx.sS (ao (aj λ _=>(au 4)) (ao (bv 3) bw))))) gb)) (λ _=>rfl)))
noncomputable abbrev iY:List Str:=["self", "name", "course", "path", "turns", "box", "is_down"]
theorem dI:aI iY eA (af f6):=b6
noncomputable def iU (aG:PFn) (cJ:PFn) (fk:DFn):Wd->Option MOut :=
 (bb (dP 3 (mP (lA aG (aC (dQ 0 "scene") (aC (eV 1) aN)))))
  (bb (dP 4 (mP (l2 aW (oE (bj [none] (lI asL (eV 3)) (tgN 0) cy (lA (λ ds=>if ds.length<=IB then some (.tuple ds) else none) (aC (eV 0) (aC (eC (.bool true)) aN))))) (oE (bj [none] (λ η=>((aC (eV 3) aN) η).bind rvS) (tgN 0) cy (lA (λ ds=>if ds.length<=IB then some (.tuple ds) else none) (aC (eV 0) (aC (eC (.bool false)) aN))))))))
  (bb (oV [5,6] (iPu (lI asL (eV 4))) (tgT (aO (tgN 5) (aO (tgN 6) gi)))
  (mIf (tPv (v4 (bT (lA cJ (aC (dQ 0 "scene") (aC (eV 5) aN)))) (v0 (bT (dQ 2 "is_last_turn"))))) (km (bG 3 "give_turn" fk (mV 0) (maC (mP (eV 5)) (maC (mP (eV 6)) (maC (mV 2) maN))))) mNx))
  (kj (mP (dQ 2 "is_kept"))))))
include tx aJ a8 dD g9 fK j6 in
theorem pk:FnOk Pr w K mg base CX0 (k+1) t.bY t.bU eA (spM K (cl t) (cZ 3 7 (iU aG cJ fk))) :=
 fnM tx.b5 dI λ _ _ _ _ _ _ hr =>
  (@ag _ _ _ _ _ _ (bM 3 dI.nd (aj λ _=>(aV aJ hr a8 tx.fB tx.aq.kp tx.fI (ac (g8 0) (ac (au 1) ak)))))
  (@ag _ _ _ _ _ _ (bM 4 dI.nd (aj λ _=>(eN (bm (gh (N':=["box"]) (mp:=[none]) rfl (a6 iY (af f6) rfl rfl (by decide +kernel)) (ax (i:=0)) (by decide) (I.list (au 3)) (λ _ _ _=>⟨(aH (i:=0) (show (["box"]:List Str).Nodup by decide +kernel) rfl (Or.inl rfl) (.inr rfl)),Ts.nil,(g7 (ac (au 0) (ac tq ak)))⟩))) (bm (gh (N':=["box"]) (mp:=[none]) rfl (a6 iY (af f6) rfl rfl (by decide +kernel)) (ax (i:=0)) (by decide) (I.rev rfl tx.z_reversed (ac (au 3) ak)) (λ _ _ _=>⟨(aH (i:=0) (show (["box"]:List Str).Nodup by decide +kernel) rfl (Or.inl rfl) (.inr rfl)),Ts.nil,(g7 (ac (au 0) (ac tq ak)))⟩))))))
  (@ag _ _ _ _ _ _ (@MS.for _ _ _ _ _ _ _ _ _ _ _ Jk rfl (MI.pu λ _=>(I.list (au 4))) (n8 (n:=2) rfl (db (aH (i:=5) dI.nd rfl (by first | exact Or.inl rfl | exact Or.inr rfl) ) (db (aH (i:=6) dI.nd rfl (by first | exact Or.inl rfl | exact Or.inr rfl) ) lE))) (TgP.tup (n:=2) (b7 (ax (i:=5)) (b7 (ax (i:=6)) TgsP.nil)) (lz))
  (@aA _ _ _ _ (@gx _ _ _ _ _ _ _ _ _ (jV λ _=>(TW.t (TW.and (pV (aV dD hr g9 tx.oh tx.aU.kp tx.ou (ac (g8 0) (ac (au 5) ak)))) (TW.and1 (T.not (pV (g8 2))))))) (@aA _ _ _ _ (kA (cH (kc:=3) (bv 0) tx.cl_Hall tx.oU fK hr j6 tx.pU (ao (aj λ _=>(au 5)) (ao (aj λ _=>(au 6)) (ao (bv 2) bw)))))) gb)) (λ _=>rfl))
  (@aA _ _ _ _ (fe (aj λ _=>(g8 2)))))))
noncomputable abbrev oX:List Str:=["self", "word", "depth", "told"]
theorem n0:aI oX de (af j2):=b6
noncomputable def hJ  : Wd->Option MOut :=
 (bb (hG 2 "word" (mV 0) (mP (eV 1)))
  (bb (hG 2 "depth" (mV 0) (mP (eV 2)))
  (bb (hG 2 "told" (mV 0) (mV 3))
  (bb (hG 2 "is_kept" (mV 0) (mP (eC (.bool false))))
  (bb (hG 2 "is_last_turn" (mV 0) (mP (eC (.bool false))))
  (hG 2 "is_ended" (mV 0) (mP (eC (.bool false)))))))))
include tx in
theorem oe:FnOk Pr w K mg base CX0 (k+1) t.bC t.bB de (spM K (cl t) (cZ 4 4 (hJ))) :=
 fnM tx.bc n0 λ _ _ _ _ _ _ hr =>
  (@ag _ _ _ _ _ _ (c0 (k:=2) (bv 0) (aj λ _=>(au 1)) tx.na_Course_word)
  (@ag _ _ _ _ _ _ (c0 (k:=2) (bv 0) (aj λ _=>(au 2)) tx.na_Course_depth)
  (@ag _ _ _ _ _ _ (c0 (k:=2) (bv 0) (bv 3) tx.na_Course_told)
  (@ag _ _ _ _ _ _ (c0 (k:=2) (bv 0) (aj λ _=>tq) tx.na_Course_is_kept)
  (@ag _ _ _ _ _ _ (c0 (k:=2) (bv 0) (aj λ _=>tq) tx.na_Course_is_last_turn)
  (@aA _ _ _ _ (c0 (k:=2) (bv 0) (aj λ _=>tq) tx.na_Course_is_ended)))))))
noncomputable abbrev uj:List Str:=["self", "name", "word", "told", "is_kept"]
theorem kg:aI uj g0 (af oB):=b6
noncomputable def kX (fG:DFn) (eI:DFn):Wd->Option MOut :=
 (bb (dP 3 (mN (λ η=>(aN η).bind gL)))
  (bb (dP 4 (bG 3 "go_along" fG (mV 0) (maC (mP (eV 1)) (maC (pB 2 eI (maC (mP (eV 2)) (maC (mP (eC (.int 0))) (maC (mV 3) maN)))) maN))))
  (kj (yc (maC (mFz (mV 3)) (maC (mP (eV 4)) maN))))))
include tx gf kR fm jN in
theorem sA:FnOk Pr w K mg base CX0 (k+1) t.d9 t.dZ g0 (spM K (cl t) (cZ 3 5 (kX fG eI))) :=
 fnM tx.cY kg λ _ _ _ _ _ _ hr =>
  (@ag _ _ _ _ _ _ (bM 3 kg.nd (ME.nw λ _=>(ce ak)))
  (@ag _ _ _ _ _ _ (bM 4 kg.nd (cH (kc:=3) (bv 0) tx.cl_Hall tx.pv gf hr kR tx.qi (ao (aj λ _=>(au 1)) (ao (ME.make (kc:=2) tx.cl_Course tx.mk_Course fm hr jN tx.mg_Course tx.oW (ao (aj λ _=>(au 2)) (ao (aj λ _=>aF) (ao (bv 3) bw)))) bw))))
  (@aA _ _ _ _ (fe (ME.tupM (ao (ME.fz (bv 3)) (ao (aj λ _=>(au 4)) bw)))))))
noncomputable abbrev A7:List Str:=["hall", "rows", "called", "kept", "number", "row", "answer"]
theorem j8:aI A7 nG (af we):=b6
noncomputable def sK (cJ:PFn) (h9:DFn) (iJ:DFn):Wd->Option MOut :=
 (bb (dP 2 (mN (λ η=>(aN η).bind gL)))
  (bb (dP 3 (mN (λ η=>(aN η).bind gL)))
  (bb (oV [4,5] (iPu (λ η=>((aC (eV 1) aN) η).bind enL)) (tgT (aO (tgN 4) (aO (tgN 5) gi)))
  (mIf (mB (mCB cJ (maC (bG 3 "boxes" h9 (mV 0) maN) (maC (mP (l2 pIx (eV 5) (eC (.int 1)))) maN)))) (bb (dP 6 (bG 3 "call" iJ (mV 0) (maC (mP (l2 pIx (eV 5) (eC (.int 1)))) (maC (mP (l2 pIx (eV 5) (eC (.int 0)))) maN))))
  (bb (km (qv (mV 2) (mP (l2 pIx (eV 6) (eC (.int 0))))))
  (mIf (tPv (bT (l2 pIx (eV 6) (eC (.int 1))))) (km (wg (mV 3) (mP (eV 4)))) mNx))) mNx))
  (kj (yc (maC (mFz (mV 2)) (maC (mFz (mV 3)) maN)))))))
include tx dD g9 iP mX jn nS in
theorem y3:FnOk Pr w K mg base CX0 (k+1) t.kx t.ku nG (spM K (cl t) (cZ 2 7 (sK cJ h9 iJ))) :=
 fnM tx.eP j8 λ _ _ _ _ _ _ hr =>
  (@ag _ _ _ _ _ _ (bM 2 j8.nd (ME.nw λ _=>(ce ak)))
  (@ag _ _ _ _ _ _ (bM 3 j8.nd (ME.nw λ _=>(ce ak)))
  (@ag _ _ _ _ _ _ (@MS.for _ _ _ _ _ _ _ _ _ _ _ Jk rfl (MI.pu λ _=>(I.enumL rfl tx.z_enumerate (ac (au 1) ak))) (n8 (n:=2) rfl (db (aH (i:=4) j8.nd rfl (by first | exact Or.inl rfl | exact Or.inr rfl) ) (db (aH (i:=5) j8.nd rfl (by first | exact Or.inl rfl | exact Or.inr rfl) ) lE))) (TgP.tup (n:=2) (b7 (ax (i:=4)) (b7 (ax (i:=5)) TgsP.nil)) (lz))
  (@aA _ _ _ _ (@gx _ _ _ _ _ _ _ _ _ (MT.val (ME.callP dD hr g9 tx.oh tx.aU.kp tx.ou (ao (ME.meth0 (kc:=3) (bv 0) tx.cl_Hall tx.rL iP hr mX tx.sU) (ao (aj λ _=>(df (au 5) (dG tx.c_BOX_hands))) bw)))) (@ag _ _ _ _ _ _ (bM 6 j8.nd (cH (kc:=3) (bv 0) tx.cl_Hall tx.sE jn hr nS tx.uf (ao (aj λ _=>(df (au 5) (dG tx.c_BOX_hands))) (ao (aj λ _=>(df (au 5) (dG tx.c_WORD_hands))) bw))))
  (@ag _ _ _ _ _ _ (kA (ME.extC (bv 2) (aj λ _=>(df (au 6) aF))))
  (@aA _ _ _ _ (@gx _ _ _ _ _ _ _ _ _ (jV λ _=>(pV (df (au 6) aF))) (@aA _ _ _ _ (kA (ME.appC (bv 3) (aj λ _=>(au 4))))) gb)))) gb)) (λ _=>rfl))
  (@aA _ _ _ _ (fe (ME.tupM (ao (ME.fz (bv 2)) (ao (ME.fz (bv 3)) bw))))))))
noncomputable abbrev nX:List Str:=["_law_script", "_law_scene_here", "_law_words", "_law_halls", "_law_keeper", "_law_hall", "_law_box_here", "_law_word", "_law_hands", "_law_rows", "_law_k", "_law_x", "_law_called", "_law_kept", "_law_due", "_law_name", "_law_single", "_law_row"]
theorem bo:aI nX ["_law_script"] (af l5):=b6
noncomputable def vj (iG:PFn) (dM:DFn) (aE:PFn) (iI:DFn) (fj:DFn) (iH:DFn) (kq:DFn) (aG:PFn):Wd->Option MOut :=
 (bb (dP 1 (mP (lA iG (aC (eV 0) (aC (eC (.int 0)) aN)))))
  (bb (dP 2 (mP (oE (λ η=>((aC (eC (.str "enter")) (aC (eC (.str "leave")) (aC (eC (.str "move")) (aC (eC (.str "down")) (aC (eC (.str "up")) aN))))) η).bind gL))))
  (bb (dP 3 (DQ (maC (pB 3 dM (maC (mP (eV 1)) maN)) (maC (pB 3 dM (maC (mP (eV 1)) maN)) maN))))
  (bb (dP 4 (mP (l2 pIx (l2 aW (oE (λ η=>((aC (eC (.str "zz")) aN) η).bind gL)) (oE (bj [none] (lI qj (eV 1)) (tgN 0) cy (l2 pIx (eV 0) (eC (.int 0)))))) (lA aE (aC (eV 0) (aC (eC (.int 100)) (aC (l2 aW (lA tW (aC (eV 1) aN)) (eC (.int 1))) aN)))))))
  (bb (B5 5 9 (mV 3)
  (oV [6] (iPu (lI qj (eV 1))) (tgN 6)
  (oV [7] (iPu (lI asL (eV 2))) (tgN 7)
  (km (bG 3 "hear" iI (mV 5) (maC (mP (l2 pIx (eV 6) (eC (.int 0)))) (maC (mP (eV 7)) (maC (mP (eC (.bool false))) (maC (mP (l2 pIx (oE (λ η=>((aC (lA (λ ds=>if ds.length<=IB then some (.tuple ds) else none) aN) (aC (lA (λ ds=>if ds.length<=IB then some (.tuple ds) else none) (aC (lA (λ ds=>if ds.length<=IB then some (.tuple ds) else none) (aC (eC (.str "keep")) aN)) aN)) aN)) η).bind gL)) (lA yY (aC (qK (l2 pEq (l2 pIx (eV 6) (eC (.int 0))) (eV 4)) (l2 pEq (eV 7) (eC (.str "move")))) aN)))) (maC (mP (eC (.bool false))) maN))))))))))
  (bb (dP 8 (pB 1 fj (maC (mP (eV 1)) maN)))
  (bb (dP 9 (mP (oE (λ η=>(aN η).bind gL))))
  (bb (oV [10] (iPu (λ η=>((aC (eC (.int 4)) aN) η).bind rng1)) (tgN 10)
  (bb (dP 11 (mP (l2 vO (lA aE (aC (eV 0) (aC (l2 aW (eC (.int 200)) (l2 mI (eC (.int 3)) (eV 10))) (aC (eC (.int 9)) aN)))) (eC (.int 1)))))
  (dP 9 (mOp aW (mP (eV 9)) (qw iH (maC (mV 8) (maC (mP (l2 pIx (oE (λ η=>((aC (eC (.int 0)) (aC (eC (.int 1)) (aC (eC (.int 0)) (aC (eC (.int 2)) aN)))) η).bind gL)) (eV 10))) (maC (mP (eC (.int 0))) (maC (mP (eV 10)) (maC (mP (eV 11)) (maC (mP (l2 vO (lA aE (aC (eV 0) (aC (l2 aW (eC (.int 201)) (l2 mI (eC (.int 3)) (eV 10))) (aC (eC (.int 9)) aN)))) (eC (.int 1)))) maN)))))))))))
  (bb (DO [12,13] (qw kq (maC (t7 (mV 3) (mP (eC (.int 0)))) (maC (mP (eV 9)) maN))) (tgT (aO (tgN 12) (aO (tgN 13) gi))))
  (bb (dP 14 (mP (oE (λ η=>(aN η).bind gL))))
  (bb (oV [7,15] (iPu (lI asL (eV 9))) (tgT (aO (tgN 7) (aO (tgN 15) gi)))
  (mIf (tPv (bT (l2 (pIn false) (eV 7) (eV 2)))) (dP 14 (mP (l2 aW (eV 14) (oE (bj [none,some 7] (lI asL (l2 pRv (lA aG (aC (eV 1) (aC (eV 15) aN))) (l1 xU (eC (.int 1))))) (tgN 0) cy (lA (λ ds=>if ds.length<=IB then some (.tuple ds) else none) (aC (eV 0) (aC (eV 1) aN)))))))) mNx))
  (bb (mIf (tPv (bOr (bT (l2 pNe (oE (bj [none] (lI asL (eV 12)) (tgN 0) cy (lA (λ ds=>if ds.length<=IB then some (.tuple ds) else none) (aC (l2 pIx (eV 0) (eC (.int 1))) (aC (l2 pIx (eV 0) (eC (.int 2))) aN))))) (eV 14))) (bT (l2 pNe (oE (bj [none] (lI asL (eV 12)) (tgN 0) (bT (l2 pIx (eV 0) (eC (.int 3)))) (eV 0))) (oE (λ η=>(aN η).bind gL)))))) (kj (mP (eC (.bool false)))) mNx)
  (bb (mIf (tPv (bT (l2 pNe (eV 13) (oE (bj [none,none,some 1,some 4] (λ η=>((aC (eV 9) aN) η).bind enL) (tgT (aO (tgN 0) (aO (tgN 1) gi))) (v4 (bT (l2 pEq (l2 pIx (eV 1) (eC (.int 0))) (eC (.str "move")))) (bT (l2 (pIn false) (eV 3) (lA aG (aC (eV 2) (aC (l2 pIx (eV 1) (eC (.int 1))) aN)))))) (eV 0)))))) (kj (mP (eC (.bool false)))) mNx)
  (bb (dP 16 (mP (oE (λ η=>(aN η).bind gL))))
  (bb (oV [17] (iPu (lI asL (eV 9))) (tgN 17)
  (dP 16 (mOp aW (mP (eV 16)) (mOp pIx (qw kq (maC (t7 (mV 3) (mP (eC (.int 1)))) (maC (mP (oE (λ η=>((aC (eV 17) aN) η).bind gL))) maN))) (mP (eC (.int 0)))))))
  (kj (DX (mP (l2 pEq (eV 16) (eV 12))) (AN pEq (qw kq (maC (t7 (mV 3) (mP (eC (.int 1)))) (maC (mP (oE (λ η=>(aN η).bind gL))) maN))) (mP (lA (λ ds=>if ds.length<=IB then some (.tuple ds) else none) (aC (oE (λ η=>(aN η).bind gL)) (aC (oE (λ η=>(aN η).bind gL)) aN))))))))))))))))))))))
include tx aY bf aJ a8 jk nP eF io jm nR fJ j5 jl nQ lW ol in
theorem AI:FnOk Pr w K mg base CX0 (k+1) t.nW t.nV ["_law_script"] (spM K (cl t) (cZ 1 18 (vj iG dM aE iI fj iH kq aG))) :=
 fnM tx.p4 bo λ _ _ _ _ _ _ hr =>
  (@ag _ _ _ _ _ _ (bM 1 bo.nd (aj λ _=>(aV jk hr nP tx.t5 tx.cX.kp tx.uc (ac (au 0) (ac aF ak)))))
  (@ag _ _ _ _ _ _ (bM 2 bo.nd (aj λ _=>(bm (ce (ac fZ (ac fZ (ac fZ (ac fZ (ac fZ ak)))))))))
  (@ag _ _ _ _ _ _ (bM 3 bo.nd (ME.lstM (ao (ME.make (kc:=3) tx.cl_Hall tx.mk_Hall eF hr io tx.mg_Hall tx.ly (ao (aj λ _=>(au 1)) bw)) (ao (ME.make (kc:=3) tx.cl_Hall tx.mk_Hall eF hr io tx.mg_Hall tx.ly (ao (aj λ _=>(au 1)) bw)) bw))))
  (@ag _ _ _ _ _ _ (bM 4 bo.nd (aj λ _=>(df (eN (bm (ce (ac fZ ak))) (bm (gh (N':=["_law_box_here"]) (mp:=[none]) rfl (a6 nX (af l5) rfl rfl (by decide +kernel)) (ax (i:=0)) (by decide) (I.tup (au 1)) (λ _ _ _=>⟨(aH (i:=0) (show (["_law_box_here"]:List Str).Nodup by decide +kernel) rfl (Or.inl rfl) (.inr rfl)),Ts.nil,(df (au 0) aF)⟩)))) (aV aY hr bf tx.ci tx.al.kp tx.cj (ac (au 0) (ac aF (ac (eN (E.len tx.z_len (ac (au 1) ak)) aF) ak)))))))
  (@ag _ _ _ _ _ _ (MS.forD 9 Jk rfl (bv 3) (aH (i:=5) bo.nd rfl (by first | exact Or.inl rfl | exact Or.inr rfl))
  (@aA _ _ _ _ (@MS.for _ _ _ _ _ _ _ _ _ _ _ Jk rfl (MI.pu λ _=>(I.tup (au 1))) (aH (i:=6) bo.nd rfl (by first | exact Or.inl rfl | exact Or.inr rfl) ) (ax (i:=6))
  (@aA _ _ _ _ (@MS.for _ _ _ _ _ _ _ _ _ _ _ Jk rfl (MI.pu λ _=>(I.list (au 2))) (aH (i:=7) bo.nd rfl (by first | exact Or.inl rfl | exact Or.inr rfl) ) (ax (i:=7))
  (@aA _ _ _ _ (kA (cH (kc:=3) (bv 5) tx.cl_Hall tx.sD jm hr nR tx.ue (ao (aj λ _=>(df (au 6) aF)) (ao (aj λ _=>(au 7)) (ao (aj λ _=>tq) (ao (aj λ _=>(df (bm (ce (ac (g7 ak) (ac (g7 (ac (g7 (ac fZ ak)) ak)) ak)))) (E.toInt tx.z_int (ac (E.and (E.eq hr (df (au 6) aF) (au 4)) (E.one (E.eq hr (au 7) fZ))) ak)))) (ao (aj λ _=>tq) bw)))))))) (λ _=>rfl))) (λ _=>rfl))))
  (@ag _ _ _ _ _ _ (bM 8 bo.nd (ME.make (kc:=1) tx.cl_Hands tx.mk_Hands fJ hr j5 tx.mg_Hands tx.pT (ao (aj λ _=>(au 1)) bw)))
  (@ag _ _ _ _ _ _ (bM 9 bo.nd (aj λ _=>(bm (ce ak))))
  (@ag _ _ _ _ _ _ (@MS.for _ _ _ _ _ _ _ _ _ _ _ Jk rfl (MI.pu λ _=>(I.rng1 tx.z_range (ac aF ak))) (aH (i:=10) bo.nd rfl (by first | exact Or.inl rfl | exact Or.inr rfl) ) (ax (i:=10))
  (@ag _ _ _ _ _ _ (bM 11 bo.nd (aj λ _=>(E.sub (aV aY hr bf tx.ci tx.al.kp tx.cj (ac (au 0) (ac (eN aF (E.mul aF (au 10))) (ac aF ak)))) aF)))
  (@aA _ _ _ _ (bM 9 bo.nd (ME.add (aj λ _=>(au 9)) (ME.call jl hr nQ tx.t6 tx.cn.kp tx.ud (ao (bv 8) (ao (aj λ _=>(df (bm (ce (ac aF (ac aF (ac aF (ac aF ak)))))) (au 10))) (ao (aj λ _=>aF) (ao (aj λ _=>(au 10)) (ao (aj λ _=>(au 11)) (ao (aj λ _=>(E.sub (aV aY hr bf tx.ci tx.al.kp tx.cj (ac (au 0) (ac (eN aF (E.mul aF (au 10))) (ac aF ak)))) aF)) bw))))))))))) (λ _=>rfl))
  (@ag _ _ _ _ _ _ (MS.unp (ME.call lW hr ol tx.sF tx.eP.kp tx.sO (ao (ME.ixL (bv 3) (aj λ _=>aF)) (ao (aj λ _=>(au 9)) bw))) (n8 (n:=2) rfl (db (aH (i:=12) bo.nd rfl (by first | exact Or.inl rfl | exact Or.inr rfl) ) (db (aH (i:=13) bo.nd rfl (by first | exact Or.inl rfl | exact Or.inr rfl) ) lE))) (TgP.tup (n:=2) (b7 (ax (i:=12)) (b7 (ax (i:=13)) TgsP.nil)) (lz)))
  (@ag _ _ _ _ _ _ (bM 14 bo.nd (aj λ _=>(bm (ce ak))))
  (@ag _ _ _ _ _ _ (@MS.for _ _ _ _ _ _ _ _ _ _ _ Jk rfl (MI.pu λ _=>(I.list (au 9))) (n8 (n:=2) rfl (db (aH (i:=7) bo.nd rfl (by first | exact Or.inl rfl | exact Or.inr rfl) ) (db (aH (i:=15) bo.nd rfl (by first | exact Or.inl rfl | exact Or.inr rfl) ) lE))) (TgP.tup (n:=2) (b7 (ax (i:=7)) (b7 (ax (i:=15)) TgsP.nil)) (lz))
  (@aA _ _ _ _ (@gx _ _ _ _ _ _ _ _ _ (jV λ _=>(T.in (au 7) (au 2))) (@aA _ _ _ _ (bM 14 bo.nd (aj λ _=>(eN (au 14) (bm (gh (N':=["_law_one", "_law_word"]) (mp:=[none,some 7]) rfl (a6 nX (af l5) rfl rfl (by decide +kernel)) (ax (i:=0)) (by decide) (I.list (E.slRev (aV aJ hr a8 tx.fB tx.aq.kp tx.fI (ac (au 1) (ac (au 15) ak))) (E.neg aF))) (λ _ _ _=>⟨(aH (i:=0) (show (["_law_one", "_law_word"]:List Str).Nodup by decide +kernel) rfl (Or.inl rfl) (.inr rfl)),Ts.nil,(g7 (ac (au 0) (ac (au 1) ak)))⟩))))))) gb)) (λ _=>rfl))
  (@ag _ _ _ _ _ _ (@gx _ _ _ _ _ _ _ _ _ (jV λ _=>(TW.t (TW.or (T.ne hr (bm (gh (N':=["_law_row"]) (mp:=[none]) rfl (a6 nX (af l5) rfl rfl (by decide +kernel)) (ax (i:=0)) (by decide) (I.list (au 12)) (λ _ _ _=>⟨(aH (i:=0) (show (["_law_row"]:List Str).Nodup by decide +kernel) rfl (Or.inl rfl) (.inr rfl)),Ts.nil,(g7 (ac (df (au 0) aF) (ac (df (au 0) aF) ak)))⟩))) (au 14)) (TW.or1 (T.ne hr (bm (gh (N':=["_law_row"]) (mp:=[none]) rfl (a6 nX (af l5) rfl rfl (by decide +kernel)) (ax (i:=0)) (by decide) (I.list (au 12)) (λ _ _ _=>⟨(aH (i:=0) (show (["_law_row"]:List Str).Nodup by decide +kernel) rfl (Or.inl rfl) (.inr rfl)),(Ts.one (pV (df (au 0) aF))),(au 0)⟩))) (bm (ce ak))))))) (@aA _ _ _ _ (fe (aj λ _=>tq))) gb)
  (@ag _ _ _ _ _ _ (@gx _ _ _ _ _ _ _ _ _ (jV λ _=>(T.ne hr (au 13) (bm (gh (N':=["_law_at", "_law_row", "_law_scene_here", "_law_keeper"]) (mp:=[none,none,some 1,some 4]) rfl (a6 nX (af l5) rfl rfl (by decide +kernel)) (TgP.tup (n:=2) (b7 (ax (i:=0)) (b7 (ax (i:=1)) TgsP.nil)) (lz)) (by decide) (I.enumL rfl tx.z_enumerate (ac (au 9) ak)) (λ _ _ _=>⟨(n8 (n:=2) rfl (db (aH (i:=0) (show (["_law_at", "_law_row", "_law_scene_here", "_law_keeper"]:List Str).Nodup by decide +kernel) rfl (Or.inl rfl) (.inr rfl)) (db (aH (i:=1) (show (["_law_at", "_law_row", "_law_scene_here", "_law_keeper"]:List Str).Nodup by decide +kernel) rfl (Or.inl rfl) (.inr rfl)) lE))),(Ts.one (TW.t (TW.and (sX hr (df (au 1) aF) fZ) (TW.and1 (T.in (au 3) (aV aJ hr a8 tx.fB tx.aq.kp tx.fI (ac (au 2) (ac (df (au 1) aF) ak)))))))),(au 0)⟩))))) (@aA _ _ _ _ (fe (aj λ _=>tq))) gb)
  (@ag _ _ _ _ _ _ (bM 16 bo.nd (aj λ _=>(bm (ce ak))))
  (@ag _ _ _ _ _ _ (@MS.for _ _ _ _ _ _ _ _ _ _ _ Jk rfl (MI.pu λ _=>(I.list (au 9))) (aH (i:=17) bo.nd rfl (by first | exact Or.inl rfl | exact Or.inr rfl) ) (ax (i:=17))
  (@aA _ _ _ _ (bM 16 bo.nd (ME.add (aj λ _=>(au 16)) (ME.at (ME.call lW hr ol tx.sF tx.eP.kp tx.sO (ao (ME.ixL (bv 3) (aj λ _=>aF)) (ao (aj λ _=>(bm (ce (ac (au 17) ak)))) bw))) (aj λ _=>aF))))) (λ _=>rfl))
  (@aA _ _ _ _ (fe (ME.and (aj λ _=>(E.eq hr (au 16) (au 12))) (ME.one (ME.eq hr (ME.call lW hr ol tx.sF tx.eP.kp tx.sO (ao (ME.ixL (bv 3) (aj λ _=>aF)) (ao (aj λ _=>(bm (ce ak))) bw))) (aj λ _=>(g7 (ac (bm (ce ak)) (ac (bm (ce ak)) ak))))))))))))))))))))))))
end
noncomputable def cc:PFn:=dh 2 2 (jO )
theorem jZ (tx:Tx K mg t):FnOk Pr w K mg base CX0 1 t.fb t.eY ii (spP K cc):=tZ (k:=0) tx 
noncomputable def al:PFn:=dh 3 4 (jd cc)
theorem aY (tx:Tx K mg t):FnOk Pr w K mg base CX0 2 t.d5 t.dU gW (spP K al):=sv (k:=1) tx (jZ tx) (by omega)
noncomputable def cX:PFn:=dh 2 13 (jc al)
theorem jk (tx:Tx K mg t):FnOk Pr w K mg base CX0 3 t.d4 t.dS gU (spP K cX):=su (k:=2) tx (aY tx) (by omega)
noncomputable def bA:DFn:=cZ 2 2 (iV )
theorem eF (tx:Tx K mg t):FnOk Pr w K mg base CX0 1 t.bZ t.bV eB (spM K (cl t) bA):=pq (k:=0) tx 
noncomputable def ay:PFn:=dh 2 3 (mY )
theorem bn (tx:Tx K mg t):FnOk Pr w K mg base CX0 1 t.iA t.iw kN (spP K ay):=wV (k:=0) tx 
noncomputable def ee:DFn:=cZ 6 7 (kW ay)
theorem jm (tx:Tx K mg t):FnOk Pr w K mg base CX0 2 t.d8 t.dY gZ (spM K (cl t) ee):=sy (k:=1) tx (bn tx) (by omega)
noncomputable def cC:DFn:=cZ 2 2 (fC )
theorem fJ (tx:Tx K mg t):FnOk Pr w K mg base CX0 1 t.bJ t.bH dJ (spM K (cl t) cC):=oS (k:=0) tx 
noncomputable def b0:DFn:=cZ 1 1 (f7 )
theorem gd (tx:Tx K mg t):FnOk Pr w K mg base CX0 1 t.bX t.bS ez (spM K (cl t) b0):=pj (k:=0) tx 
noncomputable def az:DFn:=cZ 2 2 (iT b0)
theorem a5 (tx:Tx K mg t):FnOk Pr w K mg base CX0 3 t.bW t.bR eu (spM K (cl t) az):=pi (k:=2) tx (gd tx) (by omega)
noncomputable def av:DFn:=cZ 2 2 (gA )
theorem aM (tx:Tx K mg t):FnOk Pr w K mg base CX0 1 t.bu t.br cM (spM K (cl t) av):=nI (k:=0) tx 
noncomputable def a9:PFn:=dh 2 2 (kE )
theorem fX (tx:Tx K mg t):FnOk Pr w K mg base CX0 1 t.fW t.fQ i6 (spP K a9):=uV (k:=0) tx 
noncomputable def dA:Nat->PFn
 | 0=>λ _=>none
 | n+1=>dh 2 4 (oq ay a9 (dA n))
theorem ju (tx:Tx K mg t):∀ n:Nat,FnOk Pr w K mg base CX0 (n+1) t.jt t.js l9 (spP K (dA n))
 | 0=>fn0
 | n+1=>(xV (k:=n+1) tx (bn tx) (by omega) (fX tx) (by omega) (ju tx n) (by omega)).mono (by omega)
noncomputable def dE:PFn:=dh 1 3 (lO a9 (dA 13))
theorem lU (tx:Tx K mg t):FnOk Pr w K mg base CX0 15 t.gM t.gF jG (spP K dE):=vQ (k:=14) tx (fX tx) (by omega) (ju tx 13) (by omega)
noncomputable def aq:Nat->PFn
 | 0=>λ _=>none
 | n+1=>dh 2 3 (lN ay (aq n))
theorem aJ (tx:Tx K mg t):∀ n:Nat,FnOk Pr w K mg base CX0 (n+1) t.gK t.gE jF (spP K (aq n))
 | 0=>fn0
 | n+1=>(vP (k:=n+1) tx (bn tx) (by omega) (aJ tx n) (by omega)).mono (by omega)
noncomputable def aQ:PFn:=dh 3 3 (nt ay)
theorem cL (tx:Tx K mg t):FnOk Pr w K mg base CX0 2 t.fU t.fO i4 (spP K aQ):=uT (k:=1) tx (bn tx) (by omega)
noncomputable def eM:PFn:=dh 2 2 (nq (aq 13) aQ)
theorem kH (tx:Tx K mg t):FnOk Pr w K mg base CX0 15 t.fR t.fM i0 (spP K eM):=uR (k:=14) tx (aJ tx 13) (by omega) (cL tx) (by omega)
noncomputable def cm:PFn:=dh 2 6 (lP (aq 13) ay)
theorem jY (tx:Tx K mg t):FnOk Pr w K mg base CX0 15 t.gP t.gI jJ (spP K cm):=vT (k:=14) tx (bn tx) (by omega) (aJ tx 13) (by omega)
noncomputable def eJ:PFn:=dh 2 4 (om )
theorem lV (tx:Tx K mg t):FnOk Pr w K mg base CX0 1 t.gN t.gG jH (spP K eJ):=vR (k:=0) tx 
noncomputable def dN:PFn:=dh 2 4 (mn cm (aq 13) aQ eJ)
theorem jW (tx:Tx K mg t):FnOk Pr w K mg base CX0 16 t.e7 t.eW ie (spP K dN):=tX (k:=15) tx (aJ tx 13) (by omega) (cL tx) (by omega) (jY tx) (by omega) (lV tx) (by omega)
noncomputable def iC:PFn:=dh 1 2 (pO dE eM aQ dN)
theorem m5 (tx:Tx K mg t):FnOk Pr w K mg base CX0 17 t.iy t.ir kL (spP K iC):=wT (k:=16) tx (cL tx) (by omega) (lU tx) (by omega) (kH tx) (by omega) (jW tx) (by omega)
noncomputable def bi:PFn:=dh 3 3 (mq )
theorem jX (tx:Tx K mg t):FnOk Pr w K mg base CX0 1 t.e9 t.eX ig (spP K bi):=tY (k:=0) tx 
noncomputable def fY:PFn:=dh 3 5 (i7 bi)
theorem kI (tx:Tx K mg t):FnOk Pr w K mg base CX0 2 t.fV t.fP i5 (spP K fY):=uU (k:=1) tx (jX tx) (by omega)
noncomputable def mF:PFn:=dh 3 3 (vk iC fY)
theorem si (tx:Tx K mg t):FnOk Pr w K mg base CX0 18 t.mD t.mw pf (spP K mF):=AJ (k:=17) tx (m5 tx) (by omega) (kI tx) (by omega)
noncomputable def aL:PFn:=dh 3 4 (nr mF (aq 13))
theorem cK (tx:Tx K mg t):FnOk Pr w K mg base CX0 19 t.fS t.fN i3 (spP K aL):=uS (k:=18) tx (aJ tx 13) (by omega) (si tx) (by omega)
noncomputable def eL:PFn:=dh 2 5 (pP )
theorem iB (tx:Tx K mg t):FnOk Pr w K mg base CX0 1 t.iz t.iu kM (spP K eL):=wU (k:=0) tx 
noncomputable def aZ:DFn:=cZ 2 4 (kU eL)
theorem bO (tx:Tx K mg t):FnOk Pr w K mg base CX0 2 t.d7 t.dX gY (spM K (cl t) aZ):=sx (k:=1) tx (iB tx) (by omega)
noncomputable def cB:DFn:=cZ 5 7 (iE az av aL aZ)
theorem iK (tx:Tx K mg t):FnOk Pr w K mg base CX0 20 t.dr t.di gk (spM K (cl t) cB):=rA (k:=19) tx (a5 tx) (by omega) (aM tx) (by omega) (cK tx) (by omega) (bO tx) (by omega)
noncomputable def bP:DFn:=cZ 5 8 (iF az aL aZ av)
theorem iL (tx:Tx K mg t):FnOk Pr w K mg base CX0 20 t.dt t.dj gl (spM K (cl t) bP):=rB (k:=19) tx (a5 tx) (by omega) (aM tx) (by omega) (cK tx) (by omega) (bO tx) (by omega)
noncomputable def cV:DFn:=cZ 2 3 (jQ eL)
theorem ia (tx:Tx K mg t):FnOk Pr w K mg base CX0 2 t.cS t.cQ fw (spM K (cl t) cV):=qN (k:=1) tx (iB tx) (by omega)
noncomputable def bQ:DFn:=cZ 3 5 (kn )
theorem iN (tx:Tx K mg t):FnOk Pr w K mg base CX0 1 t.du t.dk gm (spM K (cl t) bQ):=rC (k:=0) tx 
noncomputable def dO:DFn:=cZ 5 9 (jP az aL av cV bQ aZ)
theorem j0 (tx:Tx K mg t):FnOk Pr w K mg base CX0 20 t.fc t.eZ ij (spM K (cl t) dO):=t0 (k:=19) tx (a5 tx) (by omega) (aM tx) (by omega) (cK tx) (by omega) (bO tx) (by omega) (ia tx) (by omega) (iN tx) (by omega)
noncomputable def cn:DFn:=cZ 6 6 (g6 cB bP dO)
theorem jl (tx:Tx K mg t):FnOk Pr w K mg base CX0 21 t.d6 t.dW gX (spM K (cl t) cn):=sw (k:=20) tx (iK tx) (by omega) (iL tx) (by omega) (j0 tx) (by omega)
noncomputable def aU:PFn:=dh 2 2 (on )
theorem dD (tx:Tx K mg t):FnOk Pr w K mg base CX0 1 t.gO t.gH jI (spP K aU):=vS (k:=0) tx 
noncomputable def cE:DFn:=cZ 1 1 (nU )
theorem iP (tx:Tx K mg t):FnOk Pr w K mg base CX0 1 t.dz t.dq gp (spM K (cl t) cE):=rF (k:=0) tx 
noncomputable def cw:DFn:=cZ 4 5 (jq )
theorem gQ (tx:Tx K mg t):FnOk Pr w K mg base CX0 1 t.cu t.cq eS (spM K (cl t) cw):=qd (k:=0) tx 
noncomputable def fL:DFn:=cZ 2 2 (mZ )
theorem ib (tx:Tx K mg t):FnOk Pr w K mg base CX0 1 t.cT t.cR fA (spM K (cl t) fL):=qO (k:=0) tx 
noncomputable def cW:DFn:=λ _ _=>none
theorem cU (_:Tx K mg t):FnOk Pr w K mg base CX0 1 t.bh t.bg eQ (spM K (cl t) cW):=Hk
noncomputable def c8:DFn:=λ _ _=>none
theorem c7 (_:Tx K mg t):FnOk Pr w K mg base CX0 1 t.bq t.bp fo (spM K (cl t) c8):=Hk
noncomputable def cx:DFn:=cZ 3 3 (jr cW aU c8)
theorem gR (tx:Tx K mg t):FnOk Pr w K mg base CX0 2 t.cv t.cr eT (spM K (cl t) cx):=qe (k:=1) tx (cU tx) (by omega) (dD tx) (by omega) (c7 tx) (by omega)
noncomputable def cD:DFn:=cZ 3 5 (ko fL cx)
theorem iO (tx:Tx K mg t):FnOk Pr w K mg base CX0 3 t.dw t.dm gn (spM K (cl t) cD):=rE (k:=2) tx (ib tx) (by omega) (gR tx) (by omega)
noncomputable def bN:DFn:=cZ 4 5 (fE cw cD)
theorem fK (tx:Tx K mg t):FnOk Pr w K mg base CX0 4 t.bK t.bI dL (spM K (cl t) bN):=oT (k:=3) tx (gQ tx) (by omega) (iO tx) (by omega)
noncomputable def b5:DFn:=cZ 3 7 (iU (aq 13) aU bN)
theorem gf (tx:Tx K mg t):FnOk Pr w K mg base CX0 15 t.bY t.bU eA (spM K (cl t) b5):=pk (k:=14) tx (aJ tx 13) (by omega) (dD tx) (by omega) (fK tx) (by omega)
noncomputable def bc:DFn:=cZ 4 4 (hJ )
theorem fm (tx:Tx K mg t):FnOk Pr w K mg base CX0 1 t.bC t.bB de (spM K (cl t) bc):=oe (k:=0) tx 
noncomputable def cY:DFn:=cZ 3 5 (kX b5 bc)
theorem jn (tx:Tx K mg t):FnOk Pr w K mg base CX0 16 t.d9 t.dZ g0 (spM K (cl t) cY):=sA (k:=15) tx (gf tx) (by omega) (fm tx) (by omega)
noncomputable def eP:DFn:=cZ 2 7 (sK aU cE cY)
theorem lW (tx:Tx K mg t):FnOk Pr w K mg base CX0 17 t.kx t.ku nG (spM K (cl t) eP):=y3 (k:=16) tx (dD tx) (by omega) (iP tx) (by omega) (jn tx) (by omega)
noncomputable def p4:DFn:=cZ 1 18 (vj cX bA al ee cC cn eP (aq 13))
theorem CU (tx:Tx K mg t):FnOk Pr w K mg base CX0 22 t.nW t.nV ["_law_script"] (spM K (cl t) p4):=AI (k:=21) tx (aY tx) (by omega) (aJ tx 13) (by omega) (jk tx) (by omega) (eF tx) (by omega) (jm tx) (by omega) (fJ tx) (by omega) (jl tx) (by omega) (lW tx) (by omega)
end
end K26
namespace K26
noncomputable def chN (st:List (Nat×Nat)) (q:Nat):List Nat:=(st.filter λ x=>decide (x.2=q)).map (·.1)
noncomputable def tV:List (Nat×Nat)->Nat->Option Nat
 | [],_=>none
 | x::r,q=>if x.1=q then some x.2 else tV r q
noncomputable def zo (f:Nat->Option (List Nat)):List Nat->Option (List Nat)
 | []=>some []
 | x::r=>(f x).bind λ a=>(zo f r).bind λ b=>some (a++b)
noncomputable def xO (st:List (Nat×Nat)):Nat->Nat->Option (List Nat)
 | 0,_=>none
 | n+1,q=>(tV st q).bind λ p=>if p=0 then some [q] else (xO st n p).bind λ l=>if l.length+1<=3000000 then some (l++[q]) else none
noncomputable def A4 (st:List (Nat×Nat)):Nat->Nat->Option (List Nat)
 | 0,_=>none
 | n+1,q=>(tV st q).bind λ _=>(zo (A4 st n) (chN st q)).bind λ r=>if r.length+1<=3000000 then some (q::r) else none
noncomputable def BA (st:List (Nat×Nat)):Option (List Nat):=(zo (A4 st 13) (chN st 0)).bind λ r=>if r.length<=3000000 then some r else none
noncomputable def stF (ps:List Nat):List (Nat×Nat):=(List.range ps.length).map λ i=>(i+1,ps.getD i 0)
noncomputable def par (ps:List Nat) (q:Nat):Nat:=ps.getD (q - 1) 0
structure xu (ps:List Nat):Prop where
 len:ps.length<=7
 par:∀ i,ps.getD i 0<=i
noncomputable def pF (ps:List Nat):Nat->Nat->List Nat
 | 0,_=>[]
 | n+1,q=>if q=0 then [] else pF ps n (par ps q)++[q]
noncomputable def P (ps:List Nat) (q:Nat):List Nat:=pF ps q q
noncomputable def blF (st:List (Nat×Nat)):Nat->Nat->List Nat
 | 0,_=>[]
 | n+1,q=>q::(chN st q).flatMap (blF st n)
noncomputable def kids (st:List (Nat×Nat)) (n a:Nat):List Nat:=(chN st a).flatMap (blF st n)
theorem rY {α β:Type} {f:α->List β} {b:Nat}:∀ {l:List α},(∀ x∈l,(f x).length<=b)->(l.flatMap f).length<=l.length*b
 | [],_=>by simp
 | x::r,h=>by
  have h1:=h x IW;have h2:=rY (l:=r) λ y hy=>h y (IQ _ hy);rw [List.flatMap_cons,IA,IX,Nat.add_mul];omega
section
variable {ps:List Nat} (ok:xu ps)
theorem wR (n:Nat):pF ps n 0=[]:=by
 cases n with
 | zero=>rfl
 | succ n=>rfl
theorem uO (ok:xu ps) {q:Nat} (h:1<=q):par ps q < q:=by
 have:=ok.par (q - 1)
 unfold par;omega
include ok
theorem EN:∀ q n,q<=n->pF ps n q=pF ps q q:=by
 intro q
 induction q using Nat.strongRecOn with
 | _ q ih =>
  intro n hn;cases q with
  | zero=>rw [wR,wR]
  | succ j =>
   cases n with
   | zero=>omega
   | succ m =>
    have hp:=uO ok (q:=j+1) (by omega);unfold pF;rw [if_neg (by omega),if_neg (by omega),ih _ hp m (by omega),ih _ hp j (by omega)]
theorem CS {q:Nat} (h:1<=q):P ps q=P ps (par ps q)++[q]:=by
 obtain ⟨j,rfl⟩:∃ j,q=j+1:=⟨q - 1,by omega⟩;have hp:=uO ok (q:=j+1) h;unfold P;rw [pF,if_neg (by omega),EN ok _ j (by omega)]
omit ok in
theorem yZ:∀ n q,(pF ps n q).length<=n
 | 0,_=>by simp [pF]
 | n+1,q=>by
  have:=yZ n (par ps q)
  unfold pF
  split
  ·simp
  ·simp; omega
omit ok in
theorem Bn {x:Nat×Nat} (h:x∈stF ps):1<=x.1/\x.1<=ps.length/\x.2=par ps x.1:=by
 obtain ⟨i,hi,rfl⟩:=JP.mp h
 have:=J0.mp hi
 refine ⟨by simp,by show i+1<=_; omega,?_⟩;show _=ps.getD (i+1 - 1) 0;rfl
omit ok in
theorem y8 {q:Nat} (h1:1<=q) (h2:q<=ps.length):(q,par ps q)∈stF ps:=by
 refine JP.mpr ⟨q - 1,J0.mpr (by omega),?_⟩;unfold par;rw [show q - 1+1=q by omega]
omit ok in
theorem zT {q p:Nat}:∀ {st:List (Nat×Nat)},(∀ y∈st,y.1=q->y.2=p)->(q,p)∈st->tV st q=some p
 | x::r,hu,hm=>by
  unfold tV;by_cases e:x.1=q
  ·rw [if_pos e,hu x IW e]
  ·rw [if_neg e];rcases IY.mp hm with z | z
   ·exact absurd (by rw [<- z]) e
   ·exact zT (λ y hy=>hu y (IQ _ hy)) z
omit ok in
theorem wO {q:Nat} (h1:1<=q) (h2:q<=ps.length):tV (stF ps) q=some (par ps q) :=
 zT (λ y hy e=>by rw [(Bn hy).2.2,e]) (y8 h1 h2)
theorem zN:∀ n q,n<=13->1<=q->q<=ps.length->q<=n->xO (stF ps) n q=some (pF ps n q)
 | 0,q,_,h1,_,h3=>by omega
 | n+1,q,hn,h1,h2,h3=>by
  have hp:=uO ok h1;unfold xO pF;rw [wO h1 h2,Ix,if_neg (show ¬ q=0 by omega)];by_cases e:par ps q=0
  ·rw [if_pos e,e,wR]; rfl
  ·rw [if_neg e,zN n _ (by omega) (by omega) (by omega) (by omega),Ix]
   have:=yZ (ps:=ps) n (par ps q)
   rw [if_pos (by omega)]
theorem DB {q:Nat} (h1:1<=q) (h2:q<=ps.length):xO (stF ps) 13 q=some (P ps q):=by
 have:=ok.len
 rw [zN ok 13 q (by omega) h1 h2 (by omega),EN ok q 13 (by omega)]; rfl
theorem iW {a x:Nat} (h:x∈chN (stF ps) a):1<=x/\x<=ps.length/\par ps x=a/\a < x:=by
 obtain ⟨y,hy,rfl⟩:=JP.mp h;obtain ⟨h1,h2⟩:=JS.mp hy;have h3:=Bn h1;have h4:=uO ok h3.1;have h5:y.2=a:=by simpa using h2
 exact ⟨h3.1,h3.2.1,by rw [<- h3.2.2,h5],by rw [<- h5,h3.2.2]; exact h4⟩
theorem zn (a:Nat):(chN (stF ps) a).length<=7:=by
 unfold chN;rw [Iy];refine Jd (JO ..) ?_;unfold stF;rw [Iy,JT];exact ok.len
omit ok in
theorem xn {f:Nat->Option (List Nat)} {g:Nat->List Nat}:∀ {xs:List Nat},(∀ x∈xs,f x=some (g x))->zo f xs=some (xs.flatMap g)
 | [],_=>rfl
 | x::r,h=>by
  unfold zo;rw [h x IW,Ix,xn λ y hy=>h y (IQ _ hy)]
  simp
theorem uw:∀ n q,1<=q->q<=ps.length->ps.length < n+q->(blF (stF ps) n q).length<=8 ^ (ps.length - q)
 | 0,q,_,h2,h3=>by omega
 | n+1,q,h1,h2,h3=>by
  unfold blF;rw [IX];by_cases e:q=ps.length
  ·have:(chN (stF ps) q)=[]:=by
    rw [List.eq_nil_iff_forall_not_mem];intro x hx
    have:=iW ok hx
    omega
   rw [this,e]; simp
  ·obtain ⟨k,hk⟩:∃ k,ps.length - q=k+1:=⟨ps.length - q - 1,by omega⟩;have h4:=rY (f:=blF (stF ps) n) (b:=8 ^ k) (l:=chN (stF ps) q) λ x hx=>by
    have hm:=iW ok hx;exact Jd (uw n x hm.1 hm.2.1 (by omega)) (Nat.pow_le_pow_right (by decide) (by omega))
   have h5:=zn ok q;have h6:(chN (stF ps) q).length*8 ^ k<=7*8 ^ k:=Nat.mul_le_mul_right _ h5;have h7:0 < 8 ^ k:=Nat.pow_pos (by decide);rw [hk,Nat.pow_succ];omega
theorem wL {q:Nat} (h1:1<=q):8 ^ (ps.length - q)<=262144:=by
 have:=ok.len
 exact Jd (Nat.pow_le_pow_right (by decide) (show ps.length - q<=6 by omega)) (by decide)
theorem Al:∀ n q,1<=q->q<=ps.length->ps.length < n+q->A4 (stF ps) n q=some (blF (stF ps) n q)
 | 0,q,_,h2,h3=>by omega
 | n+1,q,h1,h2,h3=>by
  have hl:=uw ok (n+1) q h1 h2 h3;unfold blF at hl;rw [IX] at hl;have hp:=wL ok h1;unfold A4 blF;rw [wO h1 h2,Ix,xn (g:=blF (stF ps) n) λ x hx=>Al n x (iW ok hx).1 (iW ok hx).2.1 (by have:=iW ok hx; omega),Ix,if_pos (by omega)]
theorem Ce:(kids (stF ps) 13 0).length<=3000000:=by
 have:=ok.len
 have h4:=rY (f:=blF (stF ps) 13) (b:=262144) (l:=chN (stF ps) 0) λ x hx=>Jd (uw ok 13 x (iW ok hx).1 (iW ok hx).2.1 (by omega)) (wL ok (iW ok hx).1);have h5:=zn ok 0;unfold kids;omega
theorem FA:BA (stF ps)=some (kids (stF ps) 13 0):=by
 have:=ok.len
 have hl:=Ce ok;unfold kids at hl;unfold BA;rw [xn (g:=blF (stF ps) 13) λ x hx=>Al ok 13 x (iW ok hx).1 (iW ok hx).2.1 (by have:=iW ok hx; omega),Ix,if_pos hl];rfl
theorem Cd {x n a:Nat} (h:x∈kids (stF ps) n a):1<=x/\x<=ps.length:=by
 induction n generalizing a x with
 | zero =>
  obtain ⟨y,_,hy⟩:=List.mem_flatMap.mp h;cases hy
 | succ n ih =>
  obtain ⟨y,hy,hx⟩:=List.mem_flatMap.mp h;rcases IY.mp hx with rfl | z
  ·exact ⟨(iW ok hy).1,(iW ok hy).2.1⟩
  ·exact ih z
end
noncomputable abbrev Ar:=Int×Int×Int×Int
noncomputable abbrev Row:=Nat×Ar×List Ar
structure Geo where
 L:Nat->Int
 T:Nat->Int
 W:Nat->Int
 H:Nat->Int
 c:Nat->Bool
 h:Nat->Bool
 l:Nat->Bool
noncomputable def Geo.at (g:Geo) (l t:Int) (x:Nat):Ar:=(l+g.L x,t+g.T x,l+g.L x+g.W x,t+g.T x+g.H x)
section
variable (g:Geo) (ps:List Nat)
noncomputable def Geo.sL (q:Nat):Int:=((P ps q).map g.L).sum
noncomputable def Geo.sT (q:Nat):Int:=((P ps q).map g.T).sum
noncomputable def Geo.area (q:Nat):Ar:=(g.sL ps q,g.sT ps q,g.sL ps q+g.W q,g.sT ps q+g.H q)
noncomputable def Geo.cuts (a:Nat):List Ar:=((P ps a).filter g.c).map (g.area ps)
noncomputable def Geo.shown (q:Nat):Bool:=(P ps q).all λ x=>!g.h x
noncomputable def Geo.row (x:Nat):Row:=(x,g.area ps x,g.cuts ps (par ps x)++[g.area ps x])
end
section
variable {g:Geo} {ps:List Nat} (ok:xu ps)
include ok
theorem Eo {x:Nat} (h:1<=x):g.cuts ps x=g.cuts ps (par ps x)++if g.c x=true then [g.area ps x] else []:=by
 unfold Geo.cuts;rw [CS ok h,Ki,Js]
 congr 1
 cases hc:g.c x <;> simp [hc]
end
noncomputable def t9 (a:Ar) (x y:Int):Bool:=decide (a.1<=x)&&decide (x < a.2.2.1)&&(decide (a.2.1<=y)&&decide (y < a.2.2.2))
noncomputable def ovl (a b:Ar):Ar:=(max a.1 b.1,max a.2.1 b.2.1,min a.2.2.1 b.2.2.1,min a.2.2.2 b.2.2.2)
theorem Gh:∀ a b c d:Bool,((a&&b)&&(c&&d))=((a&&c)&&(b&&d)):=by decide
theorem Cl (a b:Ar) (x y:Int):t9 (ovl a b) x y=(t9 a x y&&t9 b x y):=by
 have h1:∀ p q r:Int,decide (max p q<=r)=(decide (p<=r)&&decide (q<=r)):=λ p q r=>by
  rw [Kw,JC,decide_eq_true_eq,decide_eq_true_eq,decide_eq_true_eq];exact Int.max_le
 have h2:∀ p q r:Int,decide (r < min p q)=(decide (r < p)&&decide (r < q)):=λ p q r=>by
  rw [Kw,JC,decide_eq_true_eq,decide_eq_true_eq,decide_eq_true_eq];exact Int.lt_min
 unfold t9 ovl;dsimp only;rw [h1,h1,h2,h2,Gh (decide (a.1<=x)),Gh (decide (a.2.1<=y)),Gh]
noncomputable def yI (g:Geo) (ps:List Nat):List Nat->Ar->Ar
 | [],w=>w
 | s::r,w=>yI g ps r (if g.c s=true then ovl w (g.area ps s) else w)
noncomputable def Geo.wnd (g:Geo) (ps:List Nat) (q:Nat):Ar:=yI g ps (P ps q) (g.area ps q)
theorem xB (g:Geo) (ps:List Nat) (x y:Int):∀ l w,t9 (yI g ps l w) x y=(t9 w x y&&((l.filter g.c).map (g.area ps)).all λ a=>t9 a x y)
 | [],w=>by simp [yI]
 | s::r,w=>by
  unfold yI;rw [xB g ps x y r,JX];cases hc:g.c s with
  | false=>rfl
  | true =>
   rw [if_pos rfl,if_pos rfl,Cl,IN,J2,Bool.and_assoc]
noncomputable def Geo.tch (g:Geo) (ps:List Nat) (x y:Int) (q:Nat):Bool:=(g.row ps q).2.2.all λ a=>t9 a x y
theorem C1 {g:Geo} {ps:List Nat} (ok:xu ps) {q:Nat} (h:1<=q) (x y:Int):t9 (g.wnd ps q) x y=g.tch ps x y q:=by
 unfold Geo.wnd Geo.tch Geo.row;rw [xB];show (_&&(g.cuts ps q).all _)=_;rw [Eo ok h,List.all_append];dsimp only;rw [List.all_append];generalize (g.cuts ps (par ps q)).all (λ a=>t9 a x y)=u;cases g.c q
 ·simp [Bool.and_comm]
 ·cases h2:t9 (g.area ps q) x y <;> simp [h2]
noncomputable def yU (ps:List Nat):List Nat:=kids (stF ps) 13 0
noncomputable abbrev In (ps:List Nat) (q:Nat):Prop:=1<=q/\q<=ps.length
theorem P_in' {ps:List Nat} (ok:xu ps) {x:Nat}:∀ q,In ps q->x∈P ps q->In ps x:=by
 intro q
 induction q using Nat.strongRecOn with
 | _ q ih =>
  intro hq hx;rw [CS ok hq.1] at hx;rcases JF.mp hx with z | z
  ·have hp:=uO ok hq.1;by_cases e:par ps q=0
   ·rw [e] at z;cases z
   ·exact ih _ hp ⟨by omega,by have:=hq.2; omega⟩ z
  ·have:x=q:=by simpa using z
   rw [this]; exact hq
theorem FT {ps:List Nat} (ok:xu ps):(yU ps).length<=2000000:=by
 have:=ok.len
 have h4:=rY (f:=blF (stF ps) 13) (b:=262144) (l:=chN (stF ps) 0) λ x hx=>Jd (uw ok 13 x (iW ok hx).1 (iW ok hx).2.1 (by omega)) (wL ok (iW ok hx).1);have h5:=zn ok 0;unfold yU kids;omega
noncomputable def tkL (g:Geo) (ps pnt:List Nat):List Nat:=(pnt.reverse.filter (g.shown ps)).filter λ q=>!g.l q
noncomputable def vg (g:Geo) (ps pnt:List Nat) (x y:Int):List Nat:=(tkL g ps pnt).filter (g.tch ps x y)
end K26
namespace K26
open PySem L2 L2.PU
theorem ji {ι:Type} {t:En->Iw->Option En} {p:En->Option Bool} {f:En->Option Iw} {η:En} (D:ι->Iw) (P:ι->Bool) (Y:ι->Iw) :
  ∀ xs:List ι,(∀ x∈xs,∃ η1,t η (D x)=some η1/\p η1=some (P x)/\(P x=true->f η1=some (Y x)))->cGo t p f η (xs.map D)=some ((xs.filter P).map Y)
 | [],_=>rfl
 | x::r,h=>by
  obtain ⟨η1,h1,h2,h3⟩:=h x IW;have ih:=ji D P Y r λ y hy=>h y (IQ _ hy);rw [IN];unfold cGo;rw [h1,Ix,h2,Ix,ih,JX];cases hP:P x with
  | false=>rfl
  | true=>rw [if_pos rfl,h3 hP]; rfl
structure Sc where
 st:List (Nat×Nat)
 nm:Nat->Str
 L:Nat->Int
 T:Nat->Int
 W:Nat->Int
 H:Nat->Int
 mr:Nat->Str
structure Sc.Ok (c:Sc):Prop where
 inj:∀ a b,c.nm a=c.nm b->a=b
 top:c.nm 0 = ""
 ok:∀ a,Jl (c.nm a)=true
 okm:∀ a,Jl (c.mr a)=true
 len:c.st.length<=12
noncomputable def Sc.box (c:Sc) (x:Nat×Nat):Iw:=.tuple [.str (c.nm x.1),.str (c.nm x.2),.int (c.L x.1),.int (c.T x.1),.int (c.W x.1),.int (c.H x.1),.str (c.mr x.1)]
noncomputable def Sc.d (c:Sc):Iw:=.tuple (c.st.map c.box)
noncomputable def Sc.s (c:Sc) (q:Nat):Iw:=.str (c.nm q)
noncomputable def Sc.S (c:Sc) (l:List Nat):Iw:=.list (l.map c.s)
theorem str_dec (a b:Str):(a==b)=decide (a=b):=rfl
theorem lY {a:Str} (h:Jl a=true):Jo (.str a)=true:=by
 simp [Jo,Jw,PyData.depth,h]
theorem um {a b:Str} (ha:Jl a=true) (hb:Jl b=true):pEq (.str a) (.str b)=some (.bool (decide (a=b))):=by
 unfold pEq;rw [if_pos ⟨lY ha,lY hb⟩];simp [Jh,str_dec]
theorem DD {a b:Str} (ha:Jl a=true) (hb:Jl b=true):pNe (.str a) (.str b)=some (.bool (!decide (a=b))):=by
 unfold pNe;rw [if_pos ⟨lY ha,lY hb⟩];simp [Jh,str_dec]
section
variable {c:Sc} (h:c.Ok)
include h
theorem Sc.Ok.dec (a b:Nat):decide (c.nm a=c.nm b)=decide (a=b):=by
 by_cases e:a=b
 ·subst e; simp
 ·have:¬ c.nm a=c.nm b:=λ z=>e (h.inj _ _ z)
  rw [decide_eq_false this,decide_eq_false e]
theorem Sc.Ok.eqs (a b:Nat):pEq (c.s a) (c.s b)=some (.bool (decide (a=b))):=by
 unfold Sc.s;rw [um (h.ok a) (h.ok b),h.dec]
theorem Sc.Ok.eq0 (a:Nat):pEq (c.s a) (.str "")=some (.bool (decide (a=0))):=by
 have:=h.eqs a 0
 unfold Sc.s at this ⊢;rw [h.top] at this;exact this
end
theorem big {n:Nat} (h:n<=3000000):n<=IB:=Jd h (by show 3000000<=2 ^ 24; decide)
section
variable {c:Sc} (h:c.Ok)
include h
theorem Fs:(c.st.map c.box).length<=IB:=by
 rw [Iy];exact big (Jd h.len (by decide))
theorem qJ (q:Nat):a9 [c.d,c.s q]=some (c.S (chN c.st q)):=by
 unfold a9 dh;rw [if_pos (by rfl)];show (kE [.val c.d,.val (c.s q)]).bind _=_;have e:cGo (tgN 0) (bT (l2 pEq (l2 pIx (eV 0) (eC (.int 1))) (eV 1))) (l2 pIx (eV 0) (eC (.int 0))) [.un,.val (c.s q)] (c.st.map c.box)=some ((c.st.filter λ x=>decide (x.2=q)).map λ x=>c.s x.1):=by
  refine ji c.box (λ x=>decide (x.2=q)) (λ x=>c.s x.1) _ λ x _=>⟨_,rfl,?_,λ _=>rfl⟩;show (pEq (c.s x.2) (c.s q)).bind asB=_;rw [h.eqs]; rfl
 have e2:bj [none,some 1] (lI qj (eV 0)) (tgN 0) (bT (l2 pEq (l2 pIx (eV 0) (eC (.int 1))) (eV 1))) (l2 pIx (eV 0) (eC (.int 0))) [.val c.d,.val (c.s q)]=some ((c.st.filter λ x=>decide (x.2=q)).map λ x=>c.s x.1):=by
  show (if (c.st.map c.box).length<=IB then cGo _ _ _ _ _ else none)=_;rw [if_pos (Fs h)];exact e
 unfold kE ic oE;rw [e2];show some (PyData.list _)=some (PyData.list _);unfold chN;rw [JE]; rfl
theorem CF (q p:Nat):∀ (l:List (Nat×Nat)),tV l q=some p->∀ s:Sl,sGo (tgN 2) (sIf (bT (l2 pEq (l2 pIx (eV 2) (eC (.int 0))) (eV 1))) (ic (eV 2)) sNx) (l.map c.box) [.val c.d,.val (c.s q),s]=some (.rt (c.box (q,p)))
 | x::r,hm,s=>by
  rw [IN];unfold sGo;have et:tgN 2 [.val c.d,.val (c.s q),s] (c.box x)=some [.val c.d,.val (c.s q),.val (c.box x)]:=rfl;rw [et,Ix];have eb:(bT (l2 pEq (l2 pIx (eV 2) (eC (.int 0))) (eV 1))) [.val c.d,.val (c.s q),.val (c.box x)]=some (decide (x.1=q)):=by
   show (pEq (c.s x.1) (c.s q)).bind asB=_;rw [h.eqs]; rfl
  unfold sIf;rw [eb,Ix];unfold tV at hm;by_cases e:x.1=q
  ·rw [if_pos e] at hm;cases hm;rw [if_pos (by simpa using e)];subst e;rfl
  ·rw [if_neg e] at hm;rw [if_neg (by simpa using e)];show sGo _ _ (r.map c.box) _=_;exact CF q p r hm _
theorem p0 {q p:Nat} (h1:tV c.st q=some p):ay [c.d,c.s q]=some (c.box (q,p)):=by
 unfold ay dh;rw [if_pos (by rfl)];show (mY [.val c.d,.val (c.s q),.un]).bind _=_;have e2:oR (lI qj (eV 0)) (tgN 2) (sIf (bT (l2 pEq (l2 pIx (eV 2) (eC (.int 0))) (eV 1))) (ic (eV 2)) sNx) [.val c.d,.val (c.s q),.un]=some (.rt (c.box (q,p))):=CF h q p c.st h1 .un;unfold mY c9;rw [e2]; rfl
theorem tm:∀ (n q:Nat) (l:List Nat),xO c.st n q=some l->aq n [c.d,c.s q]=some (c.S l)
 | n+1,q,l,e=>by
  unfold xO at e;obtain ⟨p,hq,e⟩:=ab e
  ·unfold aq dh;rw [if_pos (by rfl)];show (lN ay (aq n) [.val c.d,.val (c.s q),.un]).bind _=_;have eb:=p0 h hq;have e1:hE 2 (l2 pIx (lA ay (aC (eV 0) (aC (eV 1) aN))) (eC (.int 1))) [.val c.d,.val (c.s q),.un]=some (.nx [.val c.d,.val (c.s q),.val (c.s (p))]):=by
    show ((ay [c.d,c.s q]).bind λ x=>_).bind _=_;rw [eb]; rfl
   have e2:(bT (l2 pEq (eV 2) (eC (.str "")))) [.val c.d,.val (c.s q),.val (c.s (p))]=some (decide (p=0)):=by
    show (pEq (c.s (p)) (.str "")).bind asB=_;rw [h.eq0]; rfl
   unfold lN c9;rw [e1,Ix];show IM (IM (sIf _ _ _ _) _) _=_;unfold sIf;rw [e2,Ix];split at e
   ·rename_i h0;cases e;rw [if_pos (by simpa using h0)];rfl
   ·rename_i h0;rw [if_neg (by simpa using h0)];obtain ⟨m,hm,e⟩:=ab e;split at e
    ·rename_i hl;cases e;have ih:=tm n _ m hm;show IM (ic _ _) _=_;have e3:ic (l2 aW (lA (aq n) (aC (eV 0) (aC (eV 2) aN))) (oE (λ η=>((aC (eV 1) aN) η).bind gL))) [.val c.d,.val (c.s q),.val (c.s (p))]=some (.rt (c.S (m++[q]))):=by
      show (((aq n) [c.d,c.s (p)]).bind λ x=>(oE _ _).bind λ y=>aW x y).bind _=_;rw [ih,Ix];show ((aW (c.S m) (.list [c.s q])).bind _)=_;unfold Sc.S aW;dsimp only;rw [if_pos (by rw [Iy]; exact big hl)];simp [Sc.S]
     rw [e3]; rfl
    ·cases e
theorem yD {F:PFn} {f:Nat->Option (List Nat)} (hF:∀ x l,f x=some l->F [c.d,c.s x]=some (c.S l)) (q:Nat) :
  ∀ (xs r:List Nat),zo f xs=some r->∀ (done:List Nat) (s3:Sl),done.length+r.length<=3000000->∃ s3',sGo (tgN 3) (uI 2 (lI asL (lA F (aC (eV 0) (aC (eV 3) aN))))) (xs.map c.s) [.val c.d,.val (c.s q),.own (done.map c.s),s3]=some (.nx [.val c.d,.val (c.s q),.own ((done++r).map c.s),s3'])
 | [],r,e,done,s3,_=>by
  cases e;exact ⟨s3,by rw [JB]; rfl⟩
 | x::xs,r,e,done,s3,hl=>by
  obtain ⟨a,ea,e⟩:=ab e;obtain ⟨b,eb,e⟩:=ab e;cases e;rw [IA] at hl;obtain ⟨s3',ih⟩:=yD hF q xs b eb (done++a) (.val (c.s x)) (by rw [IA]; omega);refine ⟨s3',?_⟩;have e1:uI 2 (lI asL (lA F (aC (eV 0) (aC (eV 3) aN)))) [.val c.d,.val (c.s q),.own (done.map c.s),.val (c.s x)]=some (.nx [.val c.d,.val (c.s q),.own ((done++a).map c.s),.val (c.s x)]):=by
   show IM (IM (F [c.d,c.s x]) asL) _=_;rw [hF x a ea];show (if (done.map c.s).length+(a.map c.s).length<=IB then _ else _)=_;rw [if_pos (by rw [Iy,Iy]; exact big (by omega)),Js];rfl
  rw [IN];unfold sGo;show IM (uI 2 _ [.val c.d,.val (c.s q),.own (done.map c.s),.val (c.s x)]) _=_;rw [e1,Ix];show sGo _ _ _ _=_;rw [ih,JJ]
theorem xS {F:PFn} {f:Nat->Option (List Nat)} (hF:∀ x l,f x=some l->F [c.d,c.s x]=some (c.S l)) :
  ∀ (xs r:List Nat),zo f xs=some r->∀ (done:List Nat) (s3:Sl),done.length+r.length<=3000000->∃ s3',sGo (tgN 2) (uI 1 (lI asL (lA F (aC (eV 0) (aC (eV 2) aN))))) (xs.map c.s) [.val c.d,.own (done.map c.s),s3]=some (.nx [.val c.d,.own ((done++r).map c.s),s3'])
 | [],r,e,done,s3,_=>by
  cases e;exact ⟨s3,by rw [JB]; rfl⟩
 | x::xs,r,e,done,s3,hl=>by
  obtain ⟨a,ea,e⟩:=ab e;obtain ⟨b,eb,e⟩:=ab e;cases e;rw [IA] at hl;obtain ⟨s3',ih⟩:=xS hF xs b eb (done++a) (.val (c.s x)) (by rw [IA]; omega);refine ⟨s3',?_⟩;have e1:uI 1 (lI asL (lA F (aC (eV 0) (aC (eV 2) aN)))) [.val c.d,.own (done.map c.s),.val (c.s x)]=some (.nx [.val c.d,.own ((done++a).map c.s),.val (c.s x)]):=by
   show IM (IM (F [c.d,c.s x]) asL) _=_;rw [hF x a ea];show (if (done.map c.s).length+(a.map c.s).length<=IB then _ else _)=_;rw [if_pos (by rw [Iy,Iy]; exact big (by omega)),Js];rfl
  rw [IN];unfold sGo;show IM (uI 1 _ [.val c.d,.own (done.map c.s),.val (c.s x)]) _=_;rw [e1,Ix];show sGo _ _ _ _=_;rw [ih,JJ]
theorem vL:∀ (n q:Nat) (l:List Nat),A4 c.st n q=some l->dA n [c.d,c.s q]=some (c.S l)
 | n+1,q,l,e=>by
  unfold A4 at e;obtain ⟨p,hq,e⟩:=ab e
  ·obtain ⟨r,hr,e⟩:=ab e;split at e
   ·rename_i hl;cases e;unfold dA dh;rw [if_pos (by rfl)];show (oq ay a9 (dA n) [.val c.d,.val (c.s q),.un,.un]).bind _=_;have eb:=p0 h hq;have e1:lh 2 (λ η=>((aC (l2 pIx (lA ay (aC (eV 0) (aC (eV 1) aN))) (eC (.int 0))) aN) η).bind gL) [.val c.d,.val (c.s q),.un,.un]=some (.nx [.val c.d,.val (c.s q),.own [c.s q],.un]):=by
     show IM (IM (IM (IM (ay [c.d,c.s q]) _) _) _) _=_;rw [eb];rfl
    obtain ⟨s3',e2⟩:=yD h (vL n) q (chN c.st q) r hr [q] .un (by simpa [Nat.add_comm] using hl);have e3:oR (lI asL (lA a9 (aC (eV 0) (aC (eV 1) aN)))) (tgN 3) (uI 2 (lI asL (lA (dA n) (aC (eV 0) (aC (eV 3) aN))))) [.val c.d,.val (c.s q),.own [c.s q],.un]=some (.nx [.val c.d,.val (c.s q),.own (([q]++r).map c.s),s3']):=by
     show IM (IM (a9 [c.d,c.s q]) asL) _=_;rw [qJ h];exact e2
    unfold oq c9;rw [e1,Ix];show IM (IM (oR _ _ _ _) _) _=_;rw [e3];rfl
   ·cases e
theorem xA {l:List Nat} (e:BA c.st=some l):dE [c.d]=some (c.S l):=by
 unfold BA at e;obtain ⟨r,hr,e⟩:=ab e;split at e
 ·rename_i hl;cases e;unfold dE dh;rw [if_pos (by rfl)];show (lO a9 (dA 13) [.val c.d,.un,.un]).bind _=_;obtain ⟨s3',e2⟩:=xS h (vL h 13) (chN c.st 0) l hr [] .un (by simpa using hl);have e3:oR (lI asL (lA a9 (aC (eV 0) (aC (eC (.str "")) aN)))) (tgN 2) (uI 1 (lI asL (lA (dA 13) (aC (eV 0) (aC (eV 2) aN))))) [.val c.d,.own [],.un]=some (.nx [.val c.d,.own (l.map c.s),s3']):=by
   show IM (IM (a9 [c.d,.str ""]) asL) _=_
   have:=qJ h 0
   unfold Sc.s at this;rw [h.top] at this;rw [this];exact e2
  unfold lO c9;show IM (IM (oR _ _ _ [.val c.d,.own [],.un]) _) _=_;rw [e3];rfl
 ·cases e
end
noncomputable def Sd (ns:List Int):Iw:=.list (ns.map Jm)
theorem yC:∀ ns:List Int,JA (ns.map Jm)=true
 | []=>rfl
 | _::r=>by
  have ih:=yC r;simpa [JA,Jw] using ih
theorem yq:∀ ns:List Int,JD (ns.map Jm)=0
 | []=>rfl
 | _::r=>by
  have ih:=yq r;simpa [JD,PyData.depth] using ih
theorem xJ (ns:List Int):Jo (.list (ns.map Jm))=true:=by
 simp [Jo,Jw,PyData.depth,yC,yq]
theorem uB (i:Int):Jo (.int i)=true:=by simp [Jo,Jw,PyData.depth]
theorem p7 (i j:Int):pEq (.int i) (.int j)=some (.bool (i==j)):=by
 unfold pEq;rw [if_pos ⟨uB i,uB j⟩];simp [Jh]
theorem ai {o:Iw->Iw->Option Iw} {f g:En->Option Iw} {η:En} {x y z:Iw} (hf:f η=some x) (hg:g η=some y) (ho:o x y=some z):l2 o f g η=some z:=by
 unfold l2;rw [hf,Ix,hg,Ix,ho]
theorem lF {i j:Int} (h:CMul i j):mI (.int i) (.int j)=some (.int (i*j)):=if_pos h
theorem oa {i j:Int} (h:0 < j):nH (.int i) (.int j)=some (.int (i % j)):=if_pos h
theorem rq {i j:Int} (h:CDiv i j):ph (.int i) (.int j)=some (.int (i / j)):=if_pos h
theorem xY {i j:Int} (h1:-(2 ^ 64) < i) (h2:i < 2 ^ 64):CMul i j:=Or.inl ⟨h1,h2⟩
theorem HX {i j:Int} (h1:-(2 ^ 64) < j) (h2:j < 2 ^ 64):CMul i j:=Or.inr ⟨h1,h2⟩
section
variable {ns:List Int}
theorem Er (hn:ns.length<=63) {k:Int} (hk:0<=k):∃ v:Int,cc [Sd ns,.int k]=some (.int v):=by
 unfold cc dh;rw [if_pos (by rfl)];have et:(bT (l2 pEq (eV 0) (oE (λ η=>(aN η).bind gL)))) [.val (Sd ns),.val (.int k)]=some (decide (ns=[])):=by
  show IM (pEq (Sd ns) (.list [])) asB=_;unfold pEq;rw [if_pos ⟨xJ ns,by rfl⟩];cases ns <;> simp [Sd,Jh,PyData.eqvAll,asB]
 show ∃ v,IM (jO [.val (Sd ns),.val (.int k)]) _=_;unfold jO c9 sIf;rw [et,Ix];by_cases h0:ns=[]
 ·rw [if_pos (by simpa using h0)];refine ⟨7*k,?_⟩
  have:l2 mI (eC (.int 7)) (eV 1) [.val (Sd ns),.val (.int k)]=some (.int (7*k)):=ai rfl rfl (lF (xY (by decide) (by decide)))
  unfold ic;rw [this]; rfl
 ·rw [if_neg (by simpa using h0)];have hp:0 < ns.length:=by cases ns with | nil=>exact absurd rfl h0 | cons=>simp
  have hlen:lA tW (aC (eV 0) aN) [.val (Sd ns),.val (.int k)]=some (.int (ns.length:Int)):=by
   show some (Jm ((ns.map Jm).length:Int))=_;rw [Iy]
  have hm:l2 nH (eV 1) (lA tW (aC (eV 0) aN)) [.val (Sd ns),.val (.int k)]=some (.int (k % (ns.length:Int))):=ai rfl hlen (oa (by omega));have hd:l2 ph (eV 1) (lA tW (aC (eV 0) aN)) [.val (Sd ns),.val (.int k)]=some (.int (k / (ns.length:Int))):=ai rfl hlen (rq ⟨by omega,by omega⟩);obtain ⟨j,hj⟩:∃ j:Nat,k % (ns.length:Int)=(j:Int):=⟨(k % (ns.length:Int)).toNat,by have:=Kg k (show (ns.length:Int)≠0 by omega); omega⟩;have hjl:j < ns.length:=by have:=Kl k (show (0:Int) < ns.length by omega); omega
  refine ⟨ns[j]+6553*(k / (ns.length:Int)),?_⟩;have hx:l2 pIx (eV 0) (l2 nH (eV 1) (lA tW (aC (eV 0) aN))) [.val (Sd ns),.val (.int k)]=some (.int ns[j]):=by
   refine ai rfl hm ?_;rw [hj];show atI (ns.map Jm) (j:Int)=_;exact uy (by rw [IP,Jb hjl]; rfl)
  have hy:l2 mI (eC (.int 6553)) (l2 ph (eV 1) (lA tW (aC (eV 0) aN))) [.val (Sd ns),.val (.int k)]=some (.int (6553*(k / (ns.length:Int)))):=ai rfl hd (lF (xY (by decide) (by decide)));have hz:=ai (o:=aW) hx hy rfl;show IM (ic _ [.val (Sd ns),.val (.int k)]) _=_;unfold ic;rw [hz];rfl
theorem jT (hn:ns.length<=63) {k m:Int} (hk:0<=k) (hm:0 < m):∃ r:Nat,(r:Int) < m/\al [Sd ns,.int k,.int m]=some (.int r):=by
 obtain ⟨v,hv⟩:=Er hn hk;unfold al dh;rw [if_pos (by rfl)];have hc:lA cc (aC (eV 0) (aC (eV 1) aN)) [.val (Sd ns),.val (.int k),.val (.int m),.un]=some (.int v):=hv;have x1:l2 nH (l2 aW (l2 mI (l2 nH (lA cc (aC (eV 0) (aC (eV 1) aN))) (eC (.int 2147483563))) (eC (.int 69069))) (l2 mI (eC (.int 104723)) (l2 aW (eV 1) (eC (.int 1))))) (eC (.int 2147483563)) [.val (Sd ns),.val (.int k),.val (.int m),.un]=some (.int ((v % 2147483563*69069+104723*(k+1)) % 2147483563)) :=
  ai (ai (ai (ai hc rfl (oa (by decide))) rfl (lF (HX (by decide) (by decide)))) (ai rfl (ai rfl rfl rfl) (lF (xY (by decide) (by decide)))) rfl) rfl (oa (by decide))
 generalize hx:(v % 2147483563*69069+104723*(k+1)) % 2147483563=x at x1;have bx:0<=x/\x < 2147483563:=by rw [<- hx]; exact ⟨Kg _ (by decide),Kl _ (by decide)⟩
 have x2:l2 nH (l2 aW (l2 mI (eV 3) (eV 3)) (l2 ph (eV 3) (eC (.int 3)))) (eC (.int 2147483399)) [.val (Sd ns),.val (.int k),.val (.int m),.val (.int x)]=some (.int ((x*x+x / 3) % 2147483399)) :=
  ai (ai (ai rfl rfl (lF (xY (by omega) (by omega)))) (ai rfl rfl (rq ⟨by decide,by decide⟩)) rfl) rfl (oa (by decide))
 generalize hy:(x*x+x / 3) % 2147483399=y at x2;have byy:0<=y/\y < 2147483399:=by rw [<- hy]; exact ⟨Kg _ (by decide),Kl _ (by decide)⟩
 have x3:l2 nH (l2 ph (l2 nH (l2 aW (l2 mI (eV 3) (eV 3)) (l2 ph (eV 3) (eC (.int 7)))) (eC (.int 2147483647))) (eC (.int 11))) (eV 2) [.val (Sd ns),.val (.int k),.val (.int m),.val (.int y)]=some (.int ((y*y+y / 7) % 2147483647 / 11 % m)) :=
  ai (ai (ai (ai (ai rfl rfl (lF (xY (by omega) (by omega)))) (ai rfl rfl (rq ⟨by decide,by decide⟩)) rfl) rfl (oa (by decide))) rfl (rq ⟨by decide,by decide⟩)) rfl (oa hm)
 refine ⟨((y*y+y / 7) % 2147483647 / 11 % m).toNat,?_,?_⟩
 ·have h1:=Kg ((y*y+y / 7) % 2147483647 / 11) (show m≠0 by omega);have h2:=Kl ((y*y+y / 7) % 2147483647 / 11) hm;omega
 ·have h1:=Kg ((y*y+y / 7) % 2147483647 / 11) (show m≠0 by omega);have e:(((y*y+y / 7) % 2147483647 / 11 % m).toNat:Int)=(y*y+y / 7) % 2147483647 / 11 % m:=by omega
  rw [e];show IM (jd cc [.val (Sd ns),.val (.int k),.val (.int m),.un]) _=_;unfold jd c9 hE ic;rw [x1,Ix,Ix];show IM (IM (IM (l2 nH _ _ [.val (Sd ns),.val (.int k),.val (.int m),.val (.int x)]) _) _) _=_;rw [x2,Ix,Ix];show IM (IM (l2 nH _ _ [.val (Sd ns),.val (.int k),.val (.int m),.val (.int y)]) _) _=_;rw [x3];rfl
end
theorem gj {f g:En->Option Out} {η η1:En} {r:Option Out} (h1:f η=some (.nx η1)) (h2:g η1=r):c9 f g η=r:=by
 unfold c9;rw [h1]; exact h2
theorem j7 {i:Nat} {f:En->Option Iw} {η:En} {d:Iw} (h:f η=some d):hE i f η=some (.nx (η.set i (.val d))):=by
 unfold hE;rw [h]; rfl
theorem ul {i:Nat} {f:En->Option (List Iw)} {η:En} {d:List Iw} (h:f η=some d):lh i f η=some (.nx (η.set i (.own d))):=by
 unfold lh;rw [h]; rfl
theorem aR {o:PFn} {fs:En->Option (List Iw)} {η:En} {ds:List Iw} {d:Iw} (h1:fs η=some ds) (h2:o ds=some d):lA o fs η=some d:=by
 unfold lA;rw [h1]; exact h2
theorem ae {f:En->Option Iw} {g:En->Option (List Iw)} {η:En} {d:Iw} {ds:List Iw} (h1:f η=some d) (h2:g η=some ds):aC f g η=some (d::ds):=by
 unfold aC;rw [h1,Ix,h2]; rfl
theorem wm {c:En->Option Bool} {f g:En->Option Out} {η:En} {b:Bool} (h:c η=some b):sIf c f g η=if b=true then f η else g η:=by
 unfold sIf;rw [h]; rfl
theorem cA {f:En->Option Iw} {η:En} {b:Bool} (h:f η=some (.bool b)):bT f η=some b:=by
 unfold bT;rw [h]; rfl
theorem sM {it:En->Option (List Iw)} {t:En->Iw->Option En} {body:En->Option Out} {η:En} {ds:List Iw} {r:Option Out} (h:it η=some ds) (h2:sGo t body ds η=r):oR it t body η=r:=by
 unfold oR;rw [h]; exact h2
theorem wI {j:Int} (h1:-(2 ^ 62)<=j) (h2:j < 2 ^ 62):rng1 [.int j]=some (wH 0 j.toNat):=if_pos ⟨h1,h2⟩
theorem Dh {t:En->Iw->Option En} {body:En->Option Out} (Inv:Nat->En->Prop) (n:Nat)
  (st:∀ k η,k < n->Inv k η->∃ η1 η2,t η (.int (0+(k:Nat)))=some η1/\body η1=some (.nx η2)/\Inv (k+1) η2) {η:En} (h0:Inv 0 η):∃ η',sGo t body (wH 0 n) η=some (.nx η')/\Inv n η':=by
 have key:∀ (m k:Nat) (η:En),k+m=n->Inv k η->∃ η',sGo t body ((List.range' k m).map λ (k:Nat)=>Jm (0+(k:Nat))) η=some (.nx η')/\Inv n η':=by
  intro m
  induction m with
  | zero=>intro k η e h; exact ⟨η,rfl,by rw [<- e]; exact h⟩
  | succ m ih =>
   intro k η e h;obtain ⟨η1,η2,h1,h2,h3⟩:=st k η (by omega) h;obtain ⟨η',e1,e2⟩:=ih (k+1) η2 (by omega) h3;refine ⟨η',?_,e2⟩;rw [List.range'_succ,IN];unfold sGo;rw [h1,Ix,h2,Ix];exact e1
 unfold wH;rw [List.range_eq_range'];exact key n 0 η (by omega) h0
theorem Di {ι:Type} {t:En->Iw->Option En} {body:En->Option Out} (D:ι->Iw) (Inv:List ι->En->Prop) (all:List ι)
  (st:∀ done x rest η,all=done++x::rest->Inv done η->∃ η1 η2,t η (D x)=some η1/\body η1=some (.nx η2)/\Inv (done++[x]) η2) {η:En} (h0:Inv [] η):∃ η',sGo t body (all.map D) η=some (.nx η')/\Inv all η':=by
 have key:∀ (rest done:List ι) (η:En),all=done++rest->Inv done η->∃ η',sGo t body (rest.map D) η=some (.nx η')/\Inv all η':=by
  intro rest
  induction rest with
  | nil=>intro done η e h; exact ⟨η,rfl,by rw [e,JB]; exact h⟩
  | cons x r ih =>
   intro done η e h;obtain ⟨η1,η2,h1,h2,h3⟩:=st done x r η e h;obtain ⟨η',e1,e2⟩:=ih (done++[x]) η2 (by rw [e]; simp) h3;refine ⟨η',?_,e2⟩;rw [IN];unfold sGo;rw [h1,Ix,h2,Ix];exact e1
 exact key all [] η rfl h0
noncomputable def let8:List Nat:=[100,98,103,97,104,99,102,101]
noncomputable def nmT (t:Nat):Nat->Str
 | 0 => ""
 | j+1=>if j < 8 then ⟨#[let8.getD ((j+t) % 8) 0]⟩ else ⟨(JK (j+1) 97).toArray⟩
theorem B9:∀ x:Fin 8,∀ y:Fin 8,let8.getD x.val 0=let8.getD y.val 0->x=y:=by decide
theorem sB {t j:Nat} (h:j < 8):nmT t (j+1)=⟨#[let8.getD ((j+t) % 8) 0]⟩:=if_pos h
theorem y4 {t j:Nat} (h:¬ j < 8):nmT t (j+1)=⟨(JK (j+1) 97).toArray⟩:=if_neg h
theorem vp:("" : Str).cps.size=0:=by decide
theorem DJ (t:Nat):∀ a b,nmT t a=nmT t b->a=b:=by
 have sz:∀ a,(nmT t a).cps.size=if a=0 then 0 else if a - 1 < 8 then 1 else a:=λ a=>by
  cases a with
  | zero=>exact vp
  | succ j =>
   by_cases h:j < 8
   ·rw [sB h]; simp [h]
   ·rw [y4 h]; simp [h]
 intro a b e;have s1:=sz a;have s2:=sz b;rw [e,s2] at s1;cases a with
 | zero =>
  cases b with
  | zero=>rfl
  | succ k =>
   simp at s1;split at s1 <;> omega
 | succ j =>
  cases b with
  | zero =>
   simp at s1;split at s1 <;> omega
  | succ k =>
   by_cases hj:j < 8
   ·by_cases hk:k < 8
    ·rw [sB hj,sB hk] at e;have e1:(#[let8.getD ((j+t) % 8) 0]:Array Nat)=#[let8.getD ((k+t) % 8) 0]:=by injection e
     have e2:let8.getD ((j+t) % 8) 0=let8.getD ((k+t) % 8) 0:=by simpa using e1
     have e3:=B9 ⟨(j+t) % 8,Nat.mod_lt _ (by decide)⟩ ⟨(k+t) % 8,Nat.mod_lt _ (by decide)⟩ e2;have e4:(j+t) % 8=(k+t) % 8:=by injection e3
     omega
    ·simp [hj,hk] at s1; omega
   ·by_cases hk:k < 8
    ·simp [hj,hk] at s1; omega
    ·simp [hj,hk] at s1; omega
theorem D0:∀ x:Fin 8,let8.getD x.val 0 < 0x110000:=by decide
theorem BX (t:Nat):∀ a,Jl (nmT t a)=true:=λ a=>by
 cases a with
 | zero=>exact (by decide +kernel:Jl ("" : Str)=true)
 | succ j =>
  by_cases h:j < 8
  ·rw [sB h]
   have:=D0 ⟨(j+t) % 8,Nat.mod_lt _ (by decide)⟩
   simp only [Jn] at this;simp [Jl,this]
  ·rw [y4 h];unfold Jl;rw [Array.all_eq_true];intro i hi
   simp
structure Dr where
 ps:List Nat
 nm:Nat->Str
 L:Nat->Int
 T:Nat->Int
 W:Nat->Int
 H:Nat->Int
 mr:Nat->Str
noncomputable def bd (l t w h:Int):Prop:=(-3<=l/\l<=5)/\(-3<=t/\t<=5)/\(0<=w/\w<=8)/\(0<=h/\h<=8)
noncomputable def mkS:List Bool->Str
 | [] => ""
 | b::r=>mkS r++(if b then (⟨#[[99,102,104,108].getD r.length 0]⟩:Str) else ("" : Str))
noncomputable def FP (m:Str):Prop:=∃ bs:List Bool,bs.length=4/\m=mkS bs
structure Dr.Ok (c:Dr):Prop where
 inj:∀ a b,c.nm a=c.nm b->a=b
 top:c.nm 0 = ""
 ok:∀ a,Jl (c.nm a)=true
 okm:∀ a,Jl (c.mr a)=true
 len:c.ps.length<=12
 par:∀ i,c.ps.getD i 0<=i
 bds:∀ i,bd (c.L i) (c.T i) (c.W i) (c.H i)
 mks:∀ i,FP (c.mr i)
noncomputable def Dr.box (c:Dr) (i:Nat):Iw:=.tuple [.str (c.nm (i+1)),.str (c.nm (c.ps.getD i 0)),.int (c.L i),.int (c.T i),.int (c.W i),.int (c.H i),.str (c.mr i)]
noncomputable def Dr.d (c:Dr):Iw:=.tuple ((List.range c.ps.length).map c.box)
noncomputable def Dr.s (c:Dr) (q:Nat):Iw:=.str (c.nm q)
noncomputable def Dr.more (c:Dr) (p:Nat) (l t w h:Int) (m:Str):Dr :=
 { ps:=c.ps++[p],nm:=c.nm,L:=λ i=>if i=c.ps.length then l else c.L i,T:=λ i=>if i=c.ps.length then t else c.T i,W:=λ i=>if i=c.ps.length then w else c.W i,H:=λ i=>if i=c.ps.length then h else c.H i,mr:=λ i=>if i=c.ps.length then m else c.mr i }
theorem Dr.more_d (c:Dr) (p:Nat) (l t w h:Int) (m:Str):(c.more p l t w h m).d=.tuple ((List.range c.ps.length).map c.box++[.tuple [.str (c.nm (c.ps.length+1)),.str (c.nm p),.int l,.int t,.int w,.int h,.str m]]):=by
 unfold Dr.d;have e:(c.more p l t w h m).ps.length=c.ps.length+1:=by unfold Dr.more; simp
 rw [e,List.range_succ,Js]
 congr 2
 ·refine List.map_congr_left λ i hi=>?_;have hlt:=J0.mp hi;have hne:i≠c.ps.length:=Je hlt;have hps:(c.ps++[p])[i]?=c.ps[i]?:=IC hlt;unfold Dr.box Dr.more;simp only [hne,if_false,Jn,hps]
 ·unfold Dr.box Dr.more
  simp
theorem Dr.more_ok {c:Dr} (h:c.Ok) (hl:c.ps.length < 12) {p:Nat} (hp:p<=c.ps.length) (l t w g:Int) {m:Str} (hm:Jl m=true) (hb:bd l t w g) (hk:FP m):(c.more p l t w g m).Ok where
 inj:=h.inj
 top:=h.top
 ok:=h.ok
 okm:=λ i=>by
  unfold Dr.more;dsimp only
  split
  ·exact hm
  ·exact h.okm i
 len:=by unfold Dr.more; simp; omega
 par:=λ i=>by
  unfold Dr.more;dsimp only;rw [Jn];by_cases hi:i < c.ps.length
  ·rw [IC hi,<- Jn];exact h.par i
  ·by_cases he:i=c.ps.length
   ·subst he;rw [IJ (IF _)];simpa using hp
   ·rw [Ji (by simp; omega)];exact Kf _
 bds:=λ i=>by
  unfold Dr.more;dsimp only;by_cases e:i=c.ps.length
  ·rw [if_pos e,if_pos e,if_pos e,if_pos e]; exact hb
  ·rw [if_neg e,if_neg e,if_neg e,if_neg e]; exact h.bds i
 mks:=λ i=>by
  unfold Dr.more;dsimp only
  split
  ·exact hk
  ·exact h.mks i
noncomputable def sg4:Nat->Str:=λ j=>⟨#[[99,102,104,108].getD j 0]⟩
theorem cfhl:enS [.str "cfhl"]=some ([0,1,2,3].map λ (j:Nat)=>PyData.tuple [.int (j:Nat),.str (sg4 j)]):=by
 have e:("cfhl" : Str).cps.toList=[99,102,104,108]:=by decide +kernel
 unfold enS;dsimp only;unfold wb;rw [e];rfl
theorem dbg:("dbgahcfe" : Str).cps.toList=let8:=by decide +kernel
theorem El:("dbgahcfe" : Str).length<=IB:=by decide +kernel
theorem Aw {a b:Str} (ha:Jl a=true) (hb:Jl b=true):Jl (a++b)=true:=by
 unfold Jl at ha hb ⊢;show (a.cps++b.cps).all _=true;rw [Array.all_append,ha,hb]; rfl
theorem D4 (a b:Str):(a++b).length=a.length+b.length:=by
 show (a.cps++b.cps).size=_;rw [Array.size_append]; rfl
theorem Ft (j:Nat) (h:j∈[0,1,2,3]):Jl (sg4 j)=true:=by
 simp at h;rcases h with rfl | rfl | rfl | rfl <;> decide +kernel
theorem AM (bs:List Bool):mkS bs=mkS (false::bs):=by
 show mkS bs=mkS bs++("" : Str);apply Dc;show _=((mkS bs).cps++("" : Str).cps).toList
 have:("" : Str).cps=#[]:=by decide +kernel
 rw [this]; simp
theorem zH (j:Nat):(sg4 j).length=1:=rfl
section
variable {ns:List Int} (hn:ns.length<=63)
include hn
theorem BY {x1 x2 x3 x4 x6 x7 x8:Sl} {hh:Int} (h0:0<=hh) (s10 s11 s12:Sl):∃ (m:Str) (u v:Sl),(Jl m=true/\FP m) /\
  oR (λ η=>((aC (eC (.str "cfhl")) aN) η).bind enS) (tgT (aO (tgN 10) (aO (tgN 11) gi)))
  (sIf (bT (l2 pEq (lA al (aC (eV 0) (aC (l2 aW (l2 aW (eV 5) (eC (.int 5))) (eV 10)) (aC (l2 pIx (oE (λ η=>((aC (eC (.int 4)) (aC (eC (.int 2)) (aC (eC (.int 9)) (aC (eC (.int 6)) aN)))) η).bind gL)) (eV 10)) aN)))) (eC (.int 0)))) (hE 9 (l2 aW (eV 9) (eV 11))) sNx)
   [.val (Sd ns),x1,x2,x3,x4,.val (.int hh),x6,x7,x8,.val (.str ""),s10,s11,s12]=some (.nx [.val (Sd ns),x1,x2,x3,x4,.val (.int hh),x6,x7,x8,.val (.str m),u,v,s12]):=by
 have inv:=Di (t:=tgT (aO (tgN 10) (aO (tgN 11) gi)))
  (body:=(sIf (bT (l2 pEq (lA al (aC (eV 0) (aC (l2 aW (l2 aW (eV 5) (eC (.int 5))) (eV 10)) (aC (l2 pIx (oE (λ η=>((aC (eC (.int 4)) (aC (eC (.int 2)) (aC (eC (.int 9)) (aC (eC (.int 6)) aN)))) η).bind gL)) (eV 10)) aN)))) (eC (.int 0)))) (hE 9 (l2 aW (eV 9) (eV 11))) sNx))
  (λ (j:Nat)=>PyData.tuple [.int (j:Nat),.str (sg4 j)])
  (λ done η=>∃ (m:Str) (u v:Sl),(Jl m=true/\∃ bs:List Bool,bs.length=done.length/\m=mkS bs)/\m.length<=done.length/\η=[.val (Sd ns),x1,x2,x3,x4,.val (.int hh),x6,x7,x8,.val (.str m),u,v,s12])
  [0,1,2,3] ?_ (η:=[.val (Sd ns),x1,x2,x3,x4,.val (.int hh),x6,x7,x8,.val (.str ""),s10,s11,s12]) ⟨"", s10,s11,⟨by decide +kernel,[],rfl,rfl⟩,by decide +kernel,rfl⟩
 ·obtain ⟨η',e1,m,u,v,hm,_,rfl⟩:=inv;refine ⟨m,u,v,⟨hm.1,hm.2⟩,sM (ds:=[0,1,2,3].map λ (j:Nat)=>PyData.tuple [.int (j:Nat),.str (sg4 j)]) cfhl e1⟩
 ·rintro done j rest η hall ⟨m,u,v,hm,hml,rfl⟩
  have hj:j∈[0,1,2,3]:=by rw [hall]; simp
  have hdl:done.length<=3:=by
   have:=congrArg List.length hall
   simp at this;omega
  have hjd:j=done.length:=by
   match done,hall,hdl with
   | [],hall,_=>simp at hall; simp [hall.1]
   | [_],hall,_=>simp at hall; simp [hall.2.1]
   | [_,_],hall,_=>simp at hall; simp [hall.2.2.1]
   | [_,_,_],hall,_=>simp at hall; simp [hall.2.2.2.1]
  obtain ⟨hm,bs,hbs,hmm⟩:=hm;have hmod:∃ q:Int,0 < q/\l2 pIx (oE (λ η=>((aC (eC (.int 4)) (aC (eC (.int 2)) (aC (eC (.int 9)) (aC (eC (.int 6)) aN)))) η).bind gL)) (eV 10) [.val (Sd ns),x1,x2,x3,x4,.val (.int hh),x6,x7,x8,.val (.str m),.val (.int (j:Nat)),.val (.str (sg4 j)),s12]=some (.int q):=by
   have eo:oE (λ η=>((aC (eC (.int 4)) (aC (eC (.int 2)) (aC (eC (.int 9)) (aC (eC (.int 6)) aN)))) η).bind gL) [.val (Sd ns),x1,x2,x3,x4,.val (.int hh),x6,x7,x8,.val (.str m),.val (.int (j:Nat)),.val (.str (sg4 j)),s12]=some (.list [.int 4,.int 2,.int 9,.int 6]):=by
    have:gL [.int 4,.int 2,.int 9,.int 6]=some [.int 4,.int 2,.int 9,.int 6]:=if_pos (by show 4<=IB; decide)
    show IM (gL [.int 4,.int 2,.int 9,.int 6]) _=_;rw [this]; rfl
   simp at hj;rcases hj with rfl | rfl | rfl | rfl
   ·exact ⟨4,by decide,ai eo rfl rfl⟩
   ·exact ⟨2,by decide,ai eo rfl rfl⟩
   ·exact ⟨9,by decide,ai eo rfl rfl⟩
   ·exact ⟨6,by decide,ai eo rfl rfl⟩
  obtain ⟨q,hq,eq⟩:=hmod;obtain ⟨r,hr,er⟩:=jT hn (k:=hh+5+(j:Nat)) (m:=q) (by omega) hq;have eb:bT (l2 pEq (lA al (aC (eV 0) (aC (l2 aW (l2 aW (eV 5) (eC (.int 5))) (eV 10)) (aC (l2 pIx (oE (λ η=>((aC (eC (.int 4)) (aC (eC (.int 2)) (aC (eC (.int 9)) (aC (eC (.int 6)) aN)))) η).bind gL)) (eV 10)) aN)))) (eC (.int 0)))
    [.val (Sd ns),x1,x2,x3,x4,.val (.int hh),x6,x7,x8,.val (.str m),.val (.int (j:Nat)),.val (.str (sg4 j)),s12]=some ((r:Int)==0) :=
   cA (ai (aR (ae rfl (ae (ai (ai rfl rfl rfl) rfl rfl) (ae eq rfl))) er) rfl (p7 _ _))
  refine ⟨[.val (Sd ns),x1,x2,x3,x4,.val (.int hh),x6,x7,x8,.val (.str m),.val (.int (j:Nat)),.val (.str (sg4 j)),s12],?_⟩;by_cases h0:(r:Int)==0
  ·refine ⟨[.val (Sd ns),x1,x2,x3,x4,.val (.int hh),x6,x7,x8,.val (.str (m++sg4 j)),.val (.int (j:Nat)),.val (.str (sg4 j)),s12],rfl,?_,m++sg4 j,_,_,⟨Aw hm (Ft j hj),true::bs,by simp [hbs],by rw [hmm,hjd,<- hbs]; rfl⟩,?_,rfl⟩
   ·rw [wm eb,if_pos h0];refine j7 (d:=.str (m++sg4 j)) (ai rfl rfl ?_);show (if m.length+(sg4 j).length<=IB then some (PyData.str (m++sg4 j)) else none)=_;rw [if_pos (by rw [zH]; exact big (by omega))]
   ·rw [D4,zH,IA];simpa using hml
  ·refine ⟨[.val (Sd ns),x1,x2,x3,x4,.val (.int hh),x6,x7,x8,.val (.str m),.val (.int (j:Nat)),.val (.str (sg4 j)),s12],rfl,?_,m,_,_,⟨hm,false::bs,by simp [hbs],by rw [hmm]; exact AM bs⟩,?_,rfl⟩
   ·rw [wm eb,if_neg h0]; rfl
   ·rw [IA]; simp; omega
end
theorem dR {ds:List Iw} (h:ds.length<=3000000):(if ds.length<=IB then some (PyData.tuple ds) else none)=some (.tuple ds):=if_pos (big h)
theorem iR {ds:List Iw} (h:ds.length<=3000000):gL ds=some ds:=if_pos (big h)
theorem zw {a b:List Iw} (h:a.length+b.length<=3000000):aW (.list a) (.list b)=some (.list (a++b)):=if_pos (big h)
theorem Gi {a b:List Iw} (h:a.length+b.length<=3000000):aW (.tuple a) (.tuple b)=some (.tuple (a++b)):=if_pos (big h)
theorem eE {f:En->Option (List Iw)} {η:En} {ds:List Iw} (h:f η=some ds):oE f η=some (.list ds):=by
 unfold oE;rw [h]; rfl
theorem fH {mp:List (Option Nat)} {fi:En->Option (List Iw)} {t:En->Iw->Option En} {p:En->Option Bool} {f:En->Option Iw} {η:En} {ds:List Iw} {r:Option (List Iw)} (h1:fi η=some ds) (hz:ds.length<=3000000) (h2:cGo t p f (qU mp η) ds=r):bj mp fi t p f η=r:=by
 unfold bj;rw [h1,Ix,if_pos (big hz)];exact h2
noncomputable def GN (aE:PFn):En->Option Out :=
 (c9 (hE 5 (l2 aW (l2 aW (eV 1) (eC (.int 3))) (l2 mI (eC (.int 9)) (eV 4))))
  (c9 (hE 6 (l2 pIx (l2 aW (oE (λ η=>((aC (eC (.str "")) aN) η).bind gL)) (oE (bj [none] (lI qj (eV 2)) (tgN 0) cy (l2 pIx (eV 0) (eC (.int 0)))))) (lA aE (aC (eV 0) (aC (eV 5) (aC (l2 aW (eV 4) (eC (.int 1))) aN))))))
  (c9 (lh 7 (bj [none,some 0,some 5] (λ η=>((aC (eC (.int 2)) aN) η).bind rng1) (tgN 0) cy (l2 vO (lA aE (aC (eV 1) (aC (l2 aW (l2 aW (eV 2) (eC (.int 1))) (eV 0)) (aC (eC (.int 9)) aN)))) (eC (.int 3)))))
  (λ η=>(c9 (lh 8 (bj [none,some 0,some 5] (λ η=>((aC (eC (.int 2)) aN) η).bind rng1) (tgN 0) cy (lA aE (aC (eV 1) (aC (l2 aW (l2 aW (eV 2) (eC (.int 3))) (eV 0)) (aC (eC (.int 9)) aN))))))
  (λ η=>(c9 (hE 9 (eC (.str "")))
  (c9 (oR (λ η=>((aC (eC (.str "cfhl")) aN) η).bind enS) (tgT (aO (tgN 10) (aO (tgN 11) gi)))
  (sIf (bT (l2 pEq (lA aE (aC (eV 0) (aC (l2 aW (l2 aW (eV 5) (eC (.int 5))) (eV 10)) (aC (l2 pIx (oE (λ η=>((aC (eC (.int 4)) (aC (eC (.int 2)) (aC (eC (.int 9)) (aC (eC (.int 6)) aN)))) η).bind gL)) (eV 10)) aN)))) (eC (.int 0)))) (hE 9 (l2 aW (eV 9) (eV 11))) sNx))
  (c9 (hE 12 (l2 pIx (eC (.str "dbgahcfe")) (l2 nH (l2 aW (eV 4) (eV 3)) (eC (.int 8)))))
  (hE 2 (l2 aW (eV 2) (lA (λ ds=>if ds.length<=IB then some (.tuple ds) else none) (aC (l2 aW (l2 aW (lA (λ ds=>if ds.length<=IB then some (.tuple ds) else none) (aC (eV 12) (aC (eV 6) aN))) (lA AG (aC (l2 aW (eV 7) (eV 8)) aN))) (lA (λ ds=>if ds.length<=IB then some (.tuple ds) else none) (aC (eV 9) aN))) aN))))))) (frz 8 η))) (frz 7 η)))))
section
variable {ns:List Int} (hn:ns.length<=63)
include hn
theorem Bf {f:En->Option Iw} {η:En} {mp:List (Option Nat)} (lo hi:Int) (h:∀ k:Nat,k < 2->∃ y,(lo<=y/\y<=hi)/\f ((qU mp η).set 0 (.val (.int (0+(k:Nat)))))=some (.int y)):∃ a b:Int,((lo<=a/\a<=hi)/\(lo<=b/\b<=hi))/\bj mp (λ η=>((aC (eC (.int 2)) aN) η).bind rng1) (tgN 0) cy f η=some [.int a,.int b]:=by
 obtain ⟨a,ha,ea⟩:=h 0 (by decide);obtain ⟨b,hb,eb⟩:=h 1 (by decide);refine ⟨a,b,⟨ha,hb⟩,fH (ds:=wH 0 2) (wI (j:=2) (by decide) (by decide)) (by decide) ?_⟩
 have:=ji (t:=tgN 0) (p:=cy) (f:=f) (η:=qU mp η) (λ (k:Nat)=>Jm (0+(k:Nat))) (λ _=>true) (λ k=>.int (if k=0 then a else b)) (List.range 2) λ k hk=>by
  refine ⟨_,rfl,rfl,λ _=>?_⟩;have hk:=J0.mp hk;rcases (show k=0\/k=1 by omega) with rfl | rfl
  ·exact ea
  ·exact eb
 exact this
theorem Bp {a0:Int} (ha:0<=a0):∃ (c:Dr) (tn:Nat),c.Ok/\c.nm=nmT tn/\c.ps.length<=7/\cX [Sd ns,.int a0]=some c.d:=by
 obtain ⟨tn,htn,et⟩:=jT hn (k:=a0+1) (m:=8) (by omega) (by decide);obtain ⟨n,hnn,en⟩:=jT hn (k:=a0) (m:=8) ha (by decide);have main:=Dh (t:=tgN 4) (body:=GN al) (λ k η=>∃ (c:Dr) (s4 s5 s6 s7 s8 s9 s10 s11 s12:Sl),c.Ok/\c.nm=nmT tn/\c.ps.length=k/\η=[.val (Sd ns),.val (.int a0),.val c.d,.val (.int tn),s4,s5,s6,s7,s8,s9,s10,s11,s12]) n ?st
  (η:=[.val (Sd ns),.val (.int a0),.val (.tuple []),.val (.int tn),.un,.un,.un,.un,.un,.un,.un,.un,.un]) ⟨⟨[],nmT tn,λ _=>0,λ _=>0,λ _=>0,λ _=>0,λ _ => ""⟩,.un,.un,.un,.un,.un,.un,.un,.un,.un,⟨DJ tn,rfl,BX tn,λ _=>BX 0 0,by simp,λ _=>by simp,λ _=>by show bd 0 0 0 0; unfold bd; decide,λ _=>⟨[false,false,false,false],rfl,by show ("" : Str)=mkS [false,false,false,false]; decide +kernel⟩⟩,rfl,rfl,rfl⟩
 case st =>
  rintro k η hk ⟨c,s4,s5,s6,s7,s8,s9,s10,s11,s12,hc,hnm,hlen,rfl⟩
  have hk7:k < 7:=by omega
  refine ⟨[.val (Sd ns),.val (.int a0),.val c.d,.val (.int tn),.val (.int (0+(k:Nat))),s5,s6,s7,s8,s9,s10,s11,s12],?_⟩;have hh:l2 aW (l2 aW (eV 1) (eC (.int 3))) (l2 mI (eC (.int 9)) (eV 4)) [.val (Sd ns),.val (.int a0),.val c.d,.val (.int tn),.val (.int (0+(k:Nat))),s5,s6,s7,s8,s9,s10,s11,s12]=some (.int (a0+3+9*(0+(k:Nat)))) :=
   ai (ai rfl rfl rfl) (ai rfl rfl (lF (xY (by decide) (by decide)))) rfl
  generalize hhe:(a0+3+9*(0+(k:Nat)):Int)=hr at hh;have hr0:0<=hr:=by omega
  obtain ⟨p,hp,ep⟩:=jT hn (k:=hr) (m:=0+(k:Nat)+1) hr0 (by omega);have hp':p<=k:=by omega
  have ea:l2 pIx (l2 aW (oE (λ η=>((aC (eC (.str "")) aN) η).bind gL)) (oE (bj [none] (lI qj (eV 2)) (tgN 0) cy (l2 pIx (eV 0) (eC (.int 0)))))) (lA al (aC (eV 0) (aC (eV 5) (aC (l2 aW (eV 4) (eC (.int 1))) aN))))
    [.val (Sd ns),.val (.int a0),.val c.d,.val (.int tn),.val (.int (0+(k:Nat))),.val (.int hr),s6,s7,s8,s9,s10,s11,s12]=some (c.s p):=by
   have e1:oE (λ η=>((aC (eC (.str "")) aN) η).bind gL) [.val (Sd ns),.val (.int a0),.val c.d,.val (.int tn),.val (.int (0+(k:Nat))),.val (.int hr),s6,s7,s8,s9,s10,s11,s12]=some (.list [c.s 0]):=by
    refine eE ?_;show gL [.str ""]=_;rw [iR (by decide)];unfold Dr.s;rw [hc.top]
   have e2:oE (bj [none] (lI qj (eV 2)) (tgN 0) cy (l2 pIx (eV 0) (eC (.int 0)))) [.val (Sd ns),.val (.int a0),.val c.d,.val (.int tn),.val (.int (0+(k:Nat))),.val (.int hr),s6,s7,s8,s9,s10,s11,s12]=some (.list ((List.range k).map λ i=>c.s (i+1))):=by
    refine eE (fH (ds:=(List.range c.ps.length).map c.box) rfl (by rw [Iy,JT]; omega) ?_);rw [hlen]
    have:=ji (t:=tgN 0) (p:=cy) (f:=l2 pIx (eV 0) (eC (.int 0))) (η:=[.un]) c.box (λ _=>true) (λ i=>c.s (i+1)) (List.range k) λ i _=>⟨_,rfl,rfl,λ _=>rfl⟩
    rw [show (List.range k).filter (λ _=>true)=List.range k by simp] at this;exact this
   refine ai (ai e1 e2 (zw (by simp; omega))) (aR (ae rfl (ae rfl (ae (ai rfl rfl rfl) rfl))) ep) ?_;show atI ([c.s 0]++(List.range k).map λ i=>c.s (i+1)) (p:Int)=_;refine uy ?_;cases p with
   | zero=>rfl
   | succ j =>
    show ((List.range k).map λ i=>c.s (i+1))[j]?=_;rw [IP,J7 (by omega)];rfl
  obtain ⟨pa,pb,hbp,epl⟩:=Bf hn (-3) 5 (mp:=[none,some 0,some 5]) (f:=l2 vO (lA al (aC (eV 1) (aC (l2 aW (l2 aW (eV 2) (eC (.int 1))) (eV 0)) (aC (eC (.int 9)) aN)))) (eC (.int 3)))
   (η:=[.val (Sd ns),.val (.int a0),.val c.d,.val (.int tn),.val (.int (0+(k:Nat))),.val (.int hr),.val (c.s p),s7,s8,s9,s10,s11,s12]) λ j hj=>by
    obtain ⟨r,hr9,er⟩:=jT hn (k:=hr+1+(0+(j:Nat))) (m:=9) (by omega) (by decide);exact ⟨(r:Int) - 3,by omega,ai (aR (ae rfl (ae (ai (ai rfl rfl rfl) rfl rfl) (ae rfl rfl))) er) rfl rfl⟩
  obtain ⟨sa,sb,hbs,esz⟩:=Bf hn 0 8 (mp:=[none,some 0,some 5]) (f:=lA al (aC (eV 1) (aC (l2 aW (l2 aW (eV 2) (eC (.int 3))) (eV 0)) (aC (eC (.int 9)) aN))))
   (η:=[.val (Sd ns),.val (.int a0),.val c.d,.val (.int tn),.val (.int (0+(k:Nat))),.val (.int hr),.val (c.s p),.val (.list [.int pa,.int pb]),s8,s9,s10,s11,s12]) λ j hj=>by
    obtain ⟨r,hr9,er⟩:=jT hn (k:=hr+3+(0+(j:Nat))) (m:=9) (by omega) (by decide);exact ⟨(r:Int),by omega,aR (ae rfl (ae (ai (ai rfl rfl rfl) rfl rfl) (ae rfl rfl))) er⟩
  obtain ⟨m,u,v,hm,em⟩:=BY hn (x1:=.val (.int a0)) (x2:=.val c.d) (x3:=.val (.int tn)) (x4:=.val (.int (0+(k:Nat)))) (x6:=.val (c.s p)) (x7:=.val (.list [.int pa,.int pb])) (x8:=.val (.list [.int sa,.int sb])) hr0 s10 s11 s12;have enm:l2 pIx (eC (.str "dbgahcfe")) (l2 nH (l2 aW (eV 4) (eV 3)) (eC (.int 8))) [.val (Sd ns),.val (.int a0),.val c.d,.val (.int tn),.val (.int (0+(k:Nat))),.val (.int hr),.val (c.s p),.val (.list [.int pa,.int pb]),.val (.list [.int sa,.int sb]),.val (.str m),u,v,s12]=some (c.s (k+1)):=by
   refine ai rfl (ai (ai rfl rfl rfl) rfl (oa (by decide))) ?_;show (if ("dbgahcfe" : Str).length<=IB then (atI ("dbgahcfe" : Str).cps.toList ((0+(k:Nat)+(tn:Int)) % 8)).bind _ else none)=_;rw [if_pos El,dbg];have e8:((0+(k:Nat)+(tn:Int)) % 8:Int)=(((k+tn) % 8:Nat):Int):=by omega
   have hlt:(k+tn) % 8 < 8:=Nat.mod_lt _ (by decide);rw [e8,uy (v:=let8.getD ((k+tn) % 8) 0) (by rw [Jn,Jb (show (k+tn) % 8 < let8.length from hlt)]; rfl)];unfold Dr.s;rw [hnm,sB (by omega)];rfl
  have hcd:c.d=.tuple ((List.range c.ps.length).map c.box):=rfl;have efin:l2 aW (eV 2) (lA (λ ds=>if ds.length<=IB then some (.tuple ds) else none) (aC (l2 aW (l2 aW (lA (λ ds=>if ds.length<=IB then some (.tuple ds) else none) (aC (eV 12) (aC (eV 6) aN))) (lA AG (aC (l2 aW (eV 7) (eV 8)) aN))) (lA (λ ds=>if ds.length<=IB then some (.tuple ds) else none) (aC (eV 9) aN))) aN))
    [.val (Sd ns),.val (.int a0),.val c.d,.val (.int tn),.val (.int (0+(k:Nat))),.val (.int hr),.val (c.s p),.val (.list [.int pa,.int pb]),.val (.list [.int sa,.int sb]),.val (.str m),u,v,.val (c.s (k+1))]=some (c.more p pa pb sa sb m).d:=by
   rw [Dr.more_d];refine ai (x:=c.d) rfl (aR (ae (ai (ai (aR (ae rfl (ae rfl rfl)) (dR (by simp))) (aR (ae (ai rfl rfl (zw (by simp))) rfl) rfl) (Gi (by simp))) (aR (ae rfl rfl) (dR (by simp))) (Gi (by simp))) rfl) (dR (by simp))) ?_;rw [hcd];refine (Gi (by simp; omega)).trans ?_;rw [hlen];rfl
  refine ⟨[.val (Sd ns),.val (.int a0),.val (c.more p pa pb sa sb m).d,.val (.int tn),.val (.int (0+(k:Nat))),.val (.int hr),.val (c.s p),.val (.list [.int pa,.int pb]),.val (.list [.int sa,.int sb]),.val (.str m),u,v,.val (c.s (k+1))],rfl,?_,c.more p pa pb sa sb m,_,_,_,_,_,_,_,_,_,Dr.more_ok hc (by omega) (by omega) pa pb sa sb hm.1 ⟨hbp.1,hbp.2,hbs.1,hbs.2⟩ hm.2,hnm,by simp [Dr.more,hlen],rfl⟩;refine gj (j7 hh) (gj (j7 ea) (gj (ul epl) ?_));refine gj (ul esz) ?_;refine gj (j7 rfl) (gj em (gj (j7 enm) (j7 efin)))
 obtain ⟨η',e1,c,s4,s5,s6,s7,s8,s9,s10,s11,s12,hc,hnm,hlen,rfl⟩:=main;refine ⟨c,tn,hc,hnm,by omega,?_⟩;unfold cX dh;rw [if_pos (by rfl)];show IM (jc al [.val (Sd ns),.val (.int a0),.un,.un,.un,.un,.un,.un,.un,.un,.un,.un,.un]) _=_;have e2:jc al [.val (Sd ns),.val (.int a0),.un,.un,.un,.un,.un,.un,.un,.un,.un,.un,.un]=some (.rt c.d):=by
  refine gj (j7 (aR rfl (dR (by decide)))) (gj (j7 (aR (ae rfl (ae (ai rfl rfl rfl) (ae rfl rfl))) et)) (gj (sM ?_ e1) rfl));show IM (aC (lA al _) aN _) rng1=_;rw [ae (aR (ae rfl (ae rfl (ae rfl rfl))) en) rfl];rw [Ix,wI (by omega) (by omega),Int.toNat_natCast]
 rw [e2]; rfl
end
theorem Gf {f g:En->Option Bool} {η:En} {b:Bool} (h1:f η=some false) (h2:g η=some b):bOr f g η=some b:=by
 unfold bOr;rw [h1]; exact h2
theorem Hu {f g:En->Option Bool} {η:En} {b:Bool} (h1:f η=some true) (h2:g η=some b):v4 f g η=some b:=by
 unfold v4;rw [h1]; exact h2
theorem ifF {c:En->Option Bool} {f g:En->Option Out} {η:En} (h:c η=some false):sIf c f g η=g η:=by
 rw [wm h]; rfl
theorem wC {c:En->Option Bool} {f g:En->Option Iw} {η:En} {b:Bool} (h:c η=some b):vIf c f g η=if b=true then f η else g η:=by
 unfold vIf;rw [h]; rfl
theorem vq {f:En->Option Iw} {fl fh:En->Option (Option Int)} {η:En} {x d:Iw} {l h:Option Int} (h1:f η=some x) (h2:fl η=some l) (h3:fh η=some h) (h4:pSl x l h=some d):eSl f fl fh η=some d:=by
 unfold eSl;rw [h1,Ix,h2,Ix,h3]; exact h4
theorem xT {f:En->Option Iw} {η:En} {i:Int} (h:f η=some (.int i)):pS f η=some (some i):=by
 unfold pS;rw [h]; rfl
theorem jK {k:Iw->Option (List Iw)} {f:En->Option Iw} {η:En} {d:Iw} {ds:List Iw} (h:f η=some d) (h2:k d=some ds):lI k f η=some ds:=by
 unfold lI;rw [h]; exact h2
section
variable {c:Sc} (h:c.Ok)
include h
theorem EZ (a b:Nat):Jh (c.s a) (c.s b)=decide (a=b):=by
 unfold Sc.s Jh;rw [str_dec,h.dec]
omit h in
theorem Il {l:List Nat} {i:Int} {x:Nat} (e:atI l i=some x):atI (l.map c.s) i=some (c.s x):=by
 unfold atI at e ⊢;obtain ⟨j,h1,h2⟩:=ab e;rw [Iy,h1,Ix,IP,h2]; rfl
omit h in
theorem Ah {α β:Type} (f:α->β) (xs:List α) (lo hi:Option Int):rZ (xs.map f) lo hi=(rZ xs lo hi).map f:=by
 unfold rZ;rw [Iy,List.map_take,List.map_drop]
omit h in
theorem Gd {α:Type} (xs:List α) (k:Nat):rZ xs none (some (k:Int))=xs.take k:=by
 unfold rZ;rw [HT.sIx_none,HT.sIx_nat,List.drop_zero,Nat.sub_zero];exact List.take_eq_take_iff.mpr (by omega)
end
section
variable {c:Sc} (h:c.Ok)
include h
theorem A9 {q p:Nat} {l:List Nat} (h1:tV c.st q=some p) (e:xO c.st 13 q=some l) (pr:Nat->Nat) (hl:∀ x∈l,tV c.st x=some (pr x)) (hz:l.length<=3000000) :
  cm [c.d,c.s q]=some (.tuple [.int ((l.map λ x=>c.L x).sum),.int ((l.map λ x=>c.T x).sum),.int ((l.map λ x=>c.L x).sum+c.W q),.int ((l.map λ x=>c.T x).sum+c.H q)]):=by
 unfold cm dh;rw [if_pos (by rfl)];show (lP (aq 13) ay [.val c.d,.val (c.s q),.un,.un,.un,.un]).bind _=_;have all:∀ l:List Nat,l.filter (λ _=>true)=l:=λ l=>by simp
 have e0:bj [none,some 0] (lI asL (lA (aq 13) (aC (eV 0) (aC (eV 1) aN)))) (tgN 0) cy (lA ay (aC (eV 1) (aC (eV 0) aN))) [.val c.d,.val (c.s q),.un,.un,.un,.un]=some (l.map λ x=>c.box (x,pr x)):=by
  show IM (IM (aq 13 [c.d,c.s q]) asL) _=_;rw [tm h 13 q l e];show (if (l.map c.s).length<=IB then _ else _)=_;rw [if_pos (by rw [Iy]; exact big hz)]
  have:=ji (t:=tgN 0) (p:=cy) (f:=lA ay (aC (eV 1) (aC (eV 0) aN))) (η:=[.un,.val c.d]) c.s (λ _=>true) (λ x=>c.box (x,pr x)) l λ x hx=>⟨_,rfl,rfl,λ _=>p0 h (hl x hx)⟩
  rw [all] at this;exact this
 have sm:∀ (k:Int) (Y:Nat->Int) (η:En),(∀ x,(l2 pIx (eV 0) (eC (.int k))) [.val (c.box (x,pr x))]=some (.int (Y x)))->eV 2 η=some (.list (l.map λ x=>c.box (x,pr x))) ->
   lA wP (aC (oE (bj [none] (lI asL (eV 2)) (tgN 0) cy (l2 pIx (eV 0) (eC (.int k))))) aN) η=some (.int ((l.map λ x=>Y x).sum)):=λ k Y η hY hη=>by
  have e1:bj [none] (lI asL (eV 2)) (tgN 0) cy (l2 pIx (eV 0) (eC (.int k))) η=some ((l.map λ x=>Y x).map Jm):=by
   show IM (IM (eV 2 η) asL) _=_;rw [hη];show (if (l.map λ x=>c.box (x,pr x)).length<=IB then _ else _)=_;rw [if_pos (by rw [Iy]; exact big hz)]
   have:=ji (t:=tgN 0) (p:=cy) (f:=l2 pIx (eV 0) (eC (.int k))) (η:=qU [none] η) (λ x=>c.box (x,pr x)) (λ _=>true) (λ x=>.int (Y x)) l λ x hx=>⟨_,rfl,rfl,λ _=>hY x⟩
   rw [all] at this;rw [JE];exact this
  show IM (IM (IM (bj _ _ _ _ _ η) _) _) _=_;rw [e1];show wP [.list ((l.map λ x=>Y x).map Jm)]=_;unfold wP;dsimp only;rw [A5]; rfl
 unfold lP c9 lh;rw [e0];have s1:=sm 2 c.L [.val c.d,.val (c.s q),.val (.list (l.map λ x=>c.box (x,pr x))),.un,.un,.un] (λ _=>rfl) rfl;have s2:=sm 3 c.T [.val c.d,.val (c.s q),.val (.list (l.map λ x=>c.box (x,pr x))),.val (.int ((l.map λ x=>c.L x).sum)),.un,.un] (λ _=>rfl) rfl;have s3:=p0 h h1;show IM (IM (hE 3 _ [.val c.d,.val (c.s q),.val (.list (l.map λ x=>c.box (x,pr x))),.un,.un,.un]) _) _=_;unfold hE;rw [s1,Ix,Ix];show IM (IM (IM (lA wP _ [.val c.d,.val (c.s q),.val (.list (l.map λ x=>c.box (x,pr x))),.val (.int ((l.map λ x=>c.L x).sum)),.un,.un]) _) _) _=_;rw [s2,Ix,Ix];show IM (IM (IM (ay [c.d,c.s q]) _) _) _=_;rw [s3];rfl
end
theorem cG {α β:Type} {o:Option α} {k:α->Option β} {x:α} {r:Option β} (h:o=some x) (h2:k x=r):o.bind k=r:=by
 rw [h]; exact h2
theorem uQ {d:Iw} (h:Jo d=true):pNe d d=some (.bool false):=by
 unfold pNe;rw [if_pos ⟨h,h⟩,SeqAt.eqv_refl d (SeqAt.canLay_of_shaped h)]; rfl
theorem ifN {c:En->Option Bool} {f:En->Option Out} {η:En} (h:c η=some false):sIf c f sNx η=some (.nx η):=by
 rw [ifF h]; rfl
theorem ux {f:En->Option Bool} {η:En} {b:Bool} (h:f η=some b):v0 f η=some (!b):=by
 unfold v0;rw [h]; rfl
theorem Es {f g:En->Option Bool} {η:En} {a b:Bool} (h1:f η=some a) (h2:g η=some b):v4 f g η=some (a&&b):=by
 unfold v4;rw [h1];cases a with
 | false=>rfl
 | true=>exact h2
theorem zD {f:En->Option Iw} {η:En} {b:Bool} (h:f η=some (.bool b)):Au f η=some (.bool (!b)):=by
 unfold Au;rw [h]; rfl
theorem wD {f g:En->Option Iw} {η:En} {a b:Bool} (h1:f η=some (.bool a)) (h2:g η=some (.bool b)):qK f g η=some (.bool (a&&b)):=by
 unfold qK;rw [h1];cases a with
 | false=>rfl
 | true=>exact h2
theorem Ca {f g h:En->Option Iw} {η:En} {i j k:Int} (hf:f η=some (.int i)) (hg:g η=some (.int j)) (hh:h η=some (.int k)):lch pLe pLt f g h η=some (.bool (decide (i<=j)&&decide (j < k))):=by
 have e1:pLe (.int i) (.int j)=some (.bool (decide (i<=j))):=rfl;have e2:pLt (.int j) (.int k)=some (.bool (decide (j < k))):=rfl;unfold lch;rw [hf,Ix,hg,Ix,e1,Ix];show (if decide (i<=j)=true then (h η).bind λ w=>pLt (.int j) w else some (.bool false))=_;cases decide (i<=j) with
 | false=>rfl
 | true=>rw [if_pos rfl,hh,Ix,e2]; rfl
theorem kT {n m:Nat} {g:En->Option Out} {ds:List Iw} {d:Iw} (hl:ds.length=n) (h:g (ds.map Sl.val++JK (m - n) .un)=some (.rt d)):dh n m g ds=some d:=by
 unfold dh;rw [if_pos hl,h]; rfl
theorem ng {f:En->Option Iw} {η:En} {d:Iw} (h:f η=some d):ic f η=some (.rt d):=by
 unfold ic;rw [h]; rfl
theorem i9 {ι:Type} {t:En->Iw->Option En} {f:En->Option Iw} {η:En} (D:ι->Iw) (Y:ι->Iw) (xs:List ι) (h:∀ x∈xs,∃ η1,t η (D x)=some η1/\f η1=some (Y x)):cGo t cy f η (xs.map D)=some (xs.map Y):=by
 have:=ji (t:=t) (p:=cy) (f:=f) (η:=η) D (λ _=>true) Y xs λ x hx=>by
  obtain ⟨η1,h1,h2⟩:=h x hx;exact ⟨η1,h1,rfl,λ _=>h2⟩
 rw [show xs.filter (λ _=>true)=xs by simp] at this;exact this
theorem zY (bs:List Bool):BS [.list (bs.map PyData.bool)]=some (.bool (bs.any id)):=by
 unfold BS wS;dsimp only;rw [zt]; rfl
theorem zW (i j:Int):DF [.int i,.int j]=some (.int (max i j)):=by
 show some (Jm (if j > i then j else i))=_
 have:(if j > i then j else i)=max i j:=by split <;> omega
 rw [this]
theorem zV (i j:Int):DE [.int i,.int j]=some (.int (min i j)):=by
 show some (Jm (if j < i then j else i))=_
 have:(if j < i then j else i)=min i j:=by split <;> omega
 rw [this]
noncomputable def inM (s m:Str):Bool:=!(Builtin.Str.occurrences m s 0 m.length 1).isEmpty
noncomputable def Sc.geo (c:Sc):Geo:=⟨c.L,c.T,c.W,c.H,λ q=>inM "c" (c.mr q),λ q=>inM "h" (c.mr q),λ q=>inM "l" (c.mr q)⟩
noncomputable def arD (a:Ar):Iw:=.tuple [.int a.1,.int a.2.1,.int a.2.2.1,.int a.2.2.2]
structure Tr (c:Sc) (ps:List Nat) (D:Nat->Prop) (pnt:List Nat):Prop where
 ok:c.Ok
 din:∀ q,D q->In ps q
 par:∀ q,D q->tV c.st q=some (K26.par ps q)
 path:∀ q,D q->xO c.st 13 q=some (P ps q)
 up:∀ q,D q->∀ x∈P ps q,D x
 pn:BA c.st=some pnt
 pd:∀ q∈pnt,D q
 pl:pnt.length<=2000000
 ps:xu ps
theorem Hy {ps:List Nat} (q:Nat):(P ps q).length<=q:=yZ q q
theorem z0 (h:Nat->Bool):∀ l:List Nat,(!(l.map h).any id)=l.all λ x=>!h x
 | []=>rfl
 | x::r=>by
  have:=z0 h r
  rw [IN,JN,J2,<- this];cases h x <;> simp
section
variable {c:Sc} {ps:List Nat} {D:Nat->Prop} {pnt:List Nat} (t:Tr c ps D pnt)
include t
theorem E7 {q:Nat} (hq:D q):ay [c.d,c.s q]=some (c.box (q,par ps q)):=p0 t.ok (t.par q hq)
theorem sW {q:Nat} (hq:D q):aq 13 [c.d,c.s q]=some (c.S (P ps q)):=tm t.ok 13 q _ (t.path q hq)
theorem Ib {q:Nat} (hq:D q):q<=7:=Jd (t.din q hq).2 t.ps.len
theorem P_7 {q:Nat} (hq:D q):(P ps q).length<=7:=Jd (Hy q) (Ib t hq)
theorem CQ {q:Nat} (hq:D q):cm [c.d,c.s q]=some (arD (c.geo.area ps q)) :=
 A9 t.ok (t.par q hq) (t.path q hq) (par ps) (λ x hx=>t.par x (t.up q hq x hx)) (by have:=P_7 t hq; omega)
theorem A6:dE [c.d]=some (c.S pnt):=xA t.ok t.pn
theorem zx {q:Nat} (hq:D q) (m:Str):aQ [c.d,c.s q,.str m]=some (.bool (inM m (c.mr q))) :=
 kT rfl (show nt ay [.val c.d,.val (c.s q),.val (.str m)]=_ from ng (ai rfl (ai (aR (ae rfl (ae rfl rfl)) (E7 t hq)) rfl rfl) rfl))
theorem Ex {q:Nat} (hq:D q):eM [c.d,c.s q]=some (.bool (c.geo.shown ps q)):=by
 have e:bj [none,some 0] (lI asL (lA (aq 13) (aC (eV 0) (aC (eV 1) aN)))) (tgN 0) cy (lA aQ (aC (eV 1) (aC (eV 0) (aC (eC (.str "h")) aN)))) [.val c.d,.val (c.s q)]=some (((P ps q).map c.geo.h).map PyData.bool):=by
  refine fH (ds:=(P ps q).map c.s) (jK (aR (ae rfl (ae rfl rfl)) (sW t hq)) rfl) (by rw [Iy]; have:=P_7 t hq; omega) ?_;rw [JE];exact i9 (η:=[.un,.val c.d]) c.s (λ x=>.bool (c.geo.h x)) (P ps q) λ x hx=>⟨[.val (c.s x),.val c.d],rfl,aR (ae rfl (ae rfl (ae rfl rfl))) (zx t (t.up q hq x hx) "h")⟩
 have e2:=zD (aR (ae (g:=aN) (eE e) rfl) (zY _));rw [z0] at e2;exact kT rfl (show nq (aq 13) aQ [.val c.d,.val (c.s q)]=_ from ng e2)
omit t in
theorem Gs (a b:Ar):eJ [arD a,arD b]=some (arD (ovl a b)) :=
 kT rfl (show om [.val (arD a),.val (arD b),.un,.un]=_ from
  gj (j7 (aR (ae (ai rfl rfl rfl) (ae (ai rfl rfl rfl) rfl)) (zW _ _)))
   (gj (j7 (aR (ae (ai rfl rfl rfl) (ae (ai rfl rfl rfl) rfl)) (zW _ _)))
    (ng (aR (ae rfl (ae rfl (ae (aR (ae (ai rfl rfl rfl) (ae (ai rfl rfl rfl) rfl)) (zV _ _)) (ae (aR (ae (ai rfl rfl rfl) (ae (ai rfl rfl rfl) rfl)) (zV _ _)) rfl)))) (dR (by simp))))))
omit t in
theorem Ey (a:Ar) (x y:Int):bi [arD a,.int x,.int y]=some (.bool (t9 a x y)) :=
 kT rfl (show mq [.val (arD a),.val (.int x),.val (.int y)]=_ from
  ng (wD (Ca (ai rfl rfl rfl) rfl (ai rfl rfl rfl)) (Ca (ai rfl rfl rfl) rfl (ai rfl rfl rfl))))
theorem Bb {x1:Sl}:∀ (l:List Nat) (w:Ar) (s3:Sl),(∀ x∈l,D x)->∃ s3',sGo (tgN 3) (sIf (bT (lA aQ (aC (eV 0) (aC (eV 3) (aC (eC (.str "c")) aN))))) (hE 2 (lA eJ (aC (eV 2) (aC (lA cm (aC (eV 0) (aC (eV 3) aN))) aN)))) sNx)
  (l.map c.s) [.val c.d,x1,.val (arD w),s3]=some (.nx [.val c.d,x1,.val (arD (yI c.geo ps l w)),s3'])
 | [],w,s3,_=>⟨s3,rfl⟩
 | x::r,w,s3,h=>by
  have hx:=h x IW;obtain ⟨s3',ih⟩:=Bb r (if c.geo.c x=true then ovl w (c.geo.area ps x) else w) (.val (c.s x)) λ y hy=>h y (IQ _ hy);refine ⟨s3',?_⟩;rw [IN];unfold sGo yI;have eb:bT (lA aQ (aC (eV 0) (aC (eV 3) (aC (eC (.str "c")) aN)))) [.val c.d,x1,.val (arD w),.val (c.s x)]=some (c.geo.c x):=cA (aR (ae rfl (ae rfl (ae rfl rfl))) (zx t hx "c"));show IM (sIf _ _ _ [.val c.d,x1,.val (arD w),.val (c.s x)]) _=_;have e1:sIf (bT (lA aQ (aC (eV 0) (aC (eV 3) (aC (eC (.str "c")) aN))))) (hE 2 (lA eJ (aC (eV 2) (aC (lA cm (aC (eV 0) (aC (eV 3) aN))) aN)))) sNx [.val c.d,x1,.val (arD w),.val (c.s x)]
    = some (.nx [.val c.d,x1,.val (arD (if c.geo.c x=true then ovl w (c.geo.area ps x) else w)),.val (c.s x)]):=by
   rw [wm eb];cases c.geo.c x with
   | false=>rfl
   | true =>
    rw [if_pos rfl,if_pos rfl];exact j7 (aR (ae rfl (ae (aR (ae rfl (ae rfl rfl)) (CQ t hx)) rfl)) (Gs w _))
  rw [e1,Ix];exact ih
theorem CO {q:Nat} (hq:D q):dN [c.d,c.s q]=some (arD (c.geo.wnd ps q)):=by
 obtain ⟨s3,e⟩:=Bb t (x1:=.val (c.s q)) (P ps q) (c.geo.area ps q) .un λ x hx=>t.up q hq x hx;exact kT rfl (show mn cm (aq 13) aQ eJ [.val c.d,.val (c.s q),.un,.un]=_ from
  gj (j7 (aR (ae rfl (ae rfl rfl)) (CQ t hq))) (gj (sM (jK (aR (ae rfl (ae rfl rfl)) (sW t hq)) rfl) e) (ng rfl)))
omit t in
noncomputable def tkD (c:Sc) (ps:List Nat) (q:Nat):Iw:=.tuple [c.s q,arD (c.geo.wnd ps q)]
theorem zd {q:Nat} (h:q∈pnt.reverse.filter (c.geo.shown ps)):D q:=t.pd q (J6.mp (JS.mp h).1)
theorem Bj {q:Nat} (h:q∈tkL c.geo ps pnt):D q:=zd t (JS.mp h).1
theorem CP:iC [c.d]=some (.list ((tkL c.geo ps pnt).map (tkD c ps))):=by
 have hk:pnt.length<=3000000:=Jd t.pl (by decide);have e1:bj [none,some 0] (λ η=>((aC (lA dE (aC (eV 0) aN)) aN) η).bind rvS) (tgN 0) (bT (lA eM (aC (eV 1) (aC (eV 0) aN)))) (eV 0) [.val c.d,.un]=some ((pnt.reverse.filter (c.geo.shown ps)).map c.s):=by
  refine fH (ds:=pnt.reverse.map c.s) ?_ (by rw [Iy,Jr]; exact hk) ?_
  ·refine cG (ae (aR (ae rfl rfl) (A6 t)) rfl) ?_;show some ((List.map c.s _).reverse)=_;rw [Kr]
  ·exact ji (η:=[.un,.val c.d]) c.s (c.geo.shown ps) c.s _ λ x hx=>⟨[.val (c.s x),.val c.d],rfl,cA (aR (ae rfl (ae rfl rfl)) (Ex t (t.pd x (J6.mp hx)))),λ _=>rfl⟩
 have e2:bj [none,some 0] (lI asL (eV 1)) (tgN 0) (v0 (bT (lA aQ (aC (eV 1) (aC (eV 0) (aC (eC (.str "l")) aN)))))) (lA (λ ds=>if ds.length<=IB then some (.tuple ds) else none) (aC (eV 0) (aC (lA dN (aC (eV 1) (aC (eV 0) aN))) aN)))
   [.val c.d,.val (.list ((pnt.reverse.filter (c.geo.shown ps)).map c.s))]=some ((tkL c.geo ps pnt).map (tkD c ps)):=by
  refine fH (ds:=(pnt.reverse.filter (c.geo.shown ps)).map c.s) (jK rfl rfl) ?_ ?_
  ·rw [Iy];refine Jd (JO ..) ?_;rw [Jr]; exact hk
  ·exact ji (η:=[.un,.val c.d]) c.s (λ q=>!c.geo.l q) (tkD c ps) _ λ x hx=>⟨[.val (c.s x),.val c.d],rfl,ux (cA (aR (ae rfl (ae rfl (ae rfl rfl))) (zx t (zd t hx) "l"))),λ _=>aR (ae rfl (ae (aR (ae rfl (ae rfl rfl)) (CO t (zd t hx))) rfl)) (dR (by simp))⟩
 exact kT rfl (show pO dE eM aQ dN [.val c.d,.un]=_ from gj (ul e1) (ng (eE e2)))
omit t in
noncomputable def hdD (c:Sc):List Nat->Iw
 | []=>.none
 | q::_=>c.s q
theorem ym (x y:Int) {x0:Sl}:∀ (l:List Nat) (s3 s4:Sl),(∀ q∈l,D q) ->
  (l.filter (c.geo.tch ps x y)=[]->∃ s3' s4',sGo (tgT (aO (tgN 3) (aO (tgN 4) gi))) (sIf (bT (lA bi (aC (eV 4) (aC (eV 1) (aC (eV 2) aN))))) (ic (eV 3)) sNx) (l.map (tkD c ps)) [x0,.val (.int x),.val (.int y),s3,s4]=some (.nx [x0,.val (.int x),.val (.int y),s3',s4']))
  /\ (∀ q r,l.filter (c.geo.tch ps x y)=q::r->sGo (tgT (aO (tgN 3) (aO (tgN 4) gi))) (sIf (bT (lA bi (aC (eV 4) (aC (eV 1) (aC (eV 2) aN))))) (ic (eV 3)) sNx) (l.map (tkD c ps)) [x0,.val (.int x),.val (.int y),s3,s4]=some (.rt (c.s q)))
 | [],s3,s4,_=>⟨λ _=>⟨s3,s4,rfl⟩,λ q r e=>by cases e⟩
 | p::l,s3,s4,h=>by
  have hp:=h p IW;have ih:=ym x y (x0:=x0) l (.val (c.s p)) (.val (arD (c.geo.wnd ps p))) λ q hq=>h q (IQ _ hq);have eb:bT (lA bi (aC (eV 4) (aC (eV 1) (aC (eV 2) aN)))) [x0,.val (.int x),.val (.int y),.val (c.s p),.val (arD (c.geo.wnd ps p))]=some (c.geo.tch ps x y p):=by
   rw [<- C1 t.ps (t.din p hp).1];exact cA (aR (ae rfl (ae rfl (ae rfl rfl))) (Ey _ x y))
  have es:sGo (tgT (aO (tgN 3) (aO (tgN 4) gi))) (sIf (bT (lA bi (aC (eV 4) (aC (eV 1) (aC (eV 2) aN))))) (ic (eV 3)) sNx) ((p::l).map (tkD c ps)) [x0,.val (.int x),.val (.int y),s3,s4]
    = if c.geo.tch ps x y p=true then some (.rt (c.s p)) else sGo (tgT (aO (tgN 3) (aO (tgN 4) gi))) (sIf (bT (lA bi (aC (eV 4) (aC (eV 1) (aC (eV 2) aN))))) (ic (eV 3)) sNx) (l.map (tkD c ps)) [x0,.val (.int x),.val (.int y),.val (c.s p),.val (arD (c.geo.wnd ps p))]:=by
   rw [IN]
   conv=>lhs; unfold sGo
   show IM (sIf _ _ _ [x0,.val (.int x),.val (.int y),.val (c.s p),.val (arD (c.geo.wnd ps p))]) _=_;rw [wm eb];cases c.geo.tch ps x y p <;> rfl
  rw [es,JX];cases c.geo.tch ps x y p with
  | false =>
   rw [if_neg IT,if_neg IT];exact ih
  | true =>
   rw [if_pos rfl,if_pos rfl];exact ⟨λ e=>(by cases e),λ q r e=>(by cases e; rfl)⟩
theorem Ez (x y:Int):fY [.list ((tkL c.geo ps pnt).map (tkD c ps)),.int x,.int y]=some (hdD c (vg c.geo ps pnt x y)):=by
 have:=ym t x y (x0:=.val (.list ((tkL c.geo ps pnt).map (tkD c ps)))) (tkL c.geo ps pnt) .un .un λ q hq=>Bj t hq
 have eh:vg c.geo ps pnt x y=(tkL c.geo ps pnt).filter (c.geo.tch ps x y):=rfl;rw [eh];cases hh:(tkL c.geo ps pnt).filter (c.geo.tch ps x y) with
 | nil =>
  obtain ⟨s3,s4,e⟩:=this.1 hh;exact kT rfl (show i7 bi [.val (.list ((tkL c.geo ps pnt).map (tkD c ps))),.val (.int x),.val (.int y),.un,.un]=_ from gj (sM (jK rfl rfl) e) (ng rfl))
 | cons q r =>
  have e:=this.2 q r hh;refine kT rfl (show i7 bi [.val (.list ((tkL c.geo ps pnt).map (tkD c ps))),.val (.int x),.val (.int y),.un,.un]=_ from ?_);unfold i7 c9;rw [sM (r:=some (.rt (c.s q))) (jK rfl rfl) e];rfl
end
noncomputable def kD (c:Sc):Option Nat->Iw
 | some x=>c.s x
 | none=>.none
noncomputable def oL (c:Sc):Option (List Nat)->Iw
 | some l=>c.S l
 | none=>.none
structure Hd where
 trail:List Nat
 pr:Option (List Nat)
 held:Option Nat
 clk:Option Nat
 mom:Int
 dbl:Bool
noncomputable def hd0:Hd:=⟨[],none,none,none,0,false⟩
noncomputable def hf (c:Sc) (h:Hd):List (Str×D):=[("trail", .d (c.S h.trail)),("pressed_at", .d (oL c h.pr)),("held_by", .d (kD c h.held)),("clicked", .d (kD c h.clk)),("clicked_moment", .d (.int h.mom)),("was_double", .d (.bool h.dbl))]
noncomputable abbrev Ho (c:Sc) (s:Sto) (m:Nat) (h:Hd):Prop:=s[m]?=some (.obj 0 (hf c h))
noncomputable def rD (c:Sc) (r:Str×Nat):Iw:=.tuple [.str r.1,c.s r.2]
noncomputable def Rw (c:Sc) (l:List (Str×Nat)):Iw:=.list (l.map (rD c))
noncomputable def shN:List Nat->List Nat->List Nat
 | x::xs,y::ys=>if x=y then x::shN xs ys else []
 | _,_=>[]
theorem kr {w:Wd} {i m k:Nat} {fs:List (Str×D)} {f:Str} {x:Iw} (h1:w.η[i]?=some (some (.r m))) (h2:w.s[m]?=some (.obj k fs)) (h3:fs.lookup f=some (.d x)):dQ i f (vw w)=some x:=by
 unfold dQ vw;rw [IP,h1];show (match some (vwS (pD w.s) w.s (some (.r m))) with | some (.ob fs)=>fs f | _=>none)=_;rw [wB h2];show (fs.lookup f).bind (pD w.s)=_;rw [h3]; rfl
theorem Ak {c:Sc} {l m:List (Str×Nat)} (hl:l.length<=1000) (hm:m.length<=1000):aW (Rw c l) (Rw c m)=some (Rw c (l++m)):=by
 unfold aW Rw;dsimp only;rw [if_pos (by rw [Iy,Iy]; exact big (by omega)),<- Js]
theorem CA {α:Type} (xs:List α) (k:Nat):rZ xs (some (k:Int)) none=xs.drop k:=by
 unfold rZ;rw [HT.sIx_nat,HT.sIx_none];rcases Nat.le_total k xs.length with h | h
 ·rw [Nat.min_eq_left h];exact Ks (by rw [Jv]; omega)
 ·rw [Nat.min_eq_right h,List.drop_eq_nil_of_le (IF _),List.drop_eq_nil_of_le h,List.take_nil]
theorem Co {c:Sc} (l:List Nat) (k:Nat):pSl (c.S l) (some (k:Int)) none=some (c.S (l.drop k)):=by
 show some (PyData.list _)=_;rw [Ah,CA]; rfl
theorem Cc {c:Sc} (l:List Nat):pSl (c.S l) (some (-1)) none=some (c.S (l.drop (l.length - 1))):=by
 show some (PyData.list (rZ (l.map c.s) (some (-1)) none))=_;rw [Ah]
 have:rZ l (some (-1)) none=l.drop (l.length - 1):=by
  unfold rZ;rw [HT.sIx_none];have e:HT.sIx l.length 0 (some (-1))=l.length - 1:=by
   unfold HT.sIx
   first | (dsimp only; split <;> omega) | (dsimp only; omega) | (simp; omega) | skip
  rw [e];exact Ks (by rw [Jv]; omega)
 rw [this]; rfl
section
variable {c:Sc} (h:c.Ok)
include h
theorem nes (a b:Nat):pNe (c.s a) (c.s b)=some (.bool (!decide (a=b))):=by
 have:=DD (h.ok a) (h.ok b)
 rw [h.dec] at this;exact this
theorem EJ {A B:Sl}:∀ (a b acc:List Nat) (s3 s4:Sl),acc.length+a.length<=1000->∃ s3' s4',sGo (tgT (aO (tgN 3) (aO (tgN 4) gi))) (c9 (sIf (bT (l2 pNe (eV 3) (eV 4))) sBk sNx) (Bq 2 (eV 3))) (zpD (a.map c.s) (b.map c.s)) [A,B,.own (acc.map c.s),s3,s4]=some (.nx [A,B,.own ((acc++shN a b).map c.s),s3',s4'])
 | [],b,acc,s3,s4,_=>⟨s3,s4,by simp [zpD,sGo,shN]⟩
 | x::xs,[],acc,s3,s4,_=>⟨s3,s4,by simp [zpD,sGo,shN]⟩
 | x::xs,y::ys,acc,s3,s4,hl=>by
  rw [IN,IN,zpD];unfold sGo shN;show ∃ s3' s4',IM (some [A,B,.own (acc.map c.s),.val (c.s x),.val (c.s y)]) _=_;by_cases e:x=y
  ·subst e;obtain ⟨s3',s4',ih⟩:=EJ xs ys (acc++[x]) (.val (c.s x)) (.val (c.s x)) (by rw [IA]; simp at hl ⊢; omega);refine ⟨s3',s4',?_⟩;have hne:=nes h x x;rw [decide_eq_true rfl] at hne;have hb:c9 (sIf (bT (l2 pNe (eV 3) (eV 4))) sBk sNx) (Bq 2 (eV 3)) [A,B,.own (acc.map c.s),.val (c.s x),.val (c.s x)]=some (.nx [A,B,.own ((acc++[x]).map c.s),.val (c.s x),.val (c.s x)]):=by
    refine gj (η1:=[A,B,.own (acc.map c.s),.val (c.s x),.val (c.s x)]) (ifN (cA (ai rfl rfl hne))) ?_;show (if (acc.map c.s).length < IB then some (Out.nx [A,B,.own (acc.map c.s++[c.s x]),.val (c.s x),.val (c.s x)]) else none)=_;rw [if_pos (IV (show (acc.map c.s).length < 1001 by rw [Iy]; omega) (big (by decide))),Js]; rfl
   rw [Ix,hb,Ix,if_pos rfl];dsimp only;rw [ih]
   simp
  ·refine ⟨.val (c.s x),.val (c.s y),?_⟩;have hne:=nes h x y;rw [decide_eq_false e] at hne;have hb:c9 (sIf (bT (l2 pNe (eV 3) (eV 4))) sBk sNx) (Bq 2 (eV 3)) [A,B,.own (acc.map c.s),.val (c.s x),.val (c.s y)]=some (.bk [A,B,.own (acc.map c.s),.val (c.s x),.val (c.s y)]):=by
    unfold c9;rw [wm (b:=true) (cA (ai rfl rfl hne)),if_pos rfl]; rfl
   rw [Ix,hb,Ix,if_neg e]
   simp
theorem HA {a b:List Nat} (ha:a.length<=1000):eL [c.S a,c.S b]=some (c.S (shN a b)):=by
 obtain ⟨s3,s4,e⟩:=EJ h (A:=.val (c.S a)) (B:=.val (c.S b)) a b [] .un .un (by simpa using ha);refine kT rfl (show pP [.val (c.S a),.val (c.S b),.un,.un,.un]=_ from ?_);refine gj (η1:=[.val (c.S a),.val (c.S b),.own [],.un,.un]) (ul (cG rfl (iR (by simp)))) (gj (η1:=[.val (c.S a),.val (c.S b),.own ((shN a b).map c.s),s3,s4]) (sM (cG rfl rfl) ?_) rfl);simpa using e
end
noncomputable def wr (w:Str) (l:List Nat):List (Str×Nat):=l.map λ x=>(w,x)
noncomputable def lead (h:Hd) (p:List Nat):List (Str×Nat):=wr "leave" (h.trail.drop (shN h.trail p).length).reverse++wr "enter" (p.drop (shN h.trail p).length)
noncomputable def tell (h:Hd) (w:Str):List (Str×Nat):=match h.held with | some x=>[(w,x)] | none=>[]
noncomputable def vW (h:Hd) (x:Nat) (mo:Int):Bool:=decide (h.clk=some x)&&(decide (mo - h.mom<=20)&&!h.dbl)
noncomputable def mx (h:Hd) (x:Nat) (mo:Int):List (Str×Nat):=if vW h x mo=true then [("click", x),("double", x)] else [("click", x)]
noncomputable def pR (h:Hd) (x:Nat) (mo:Int):Hd:={ h with clk:=some x,mom:=mo,dbl:=vW h x mo }
theorem p5 {l:Sto} {n:Nat} {c c':Cell}:(l.set n c).set n c'=l.set n c':=List.set_set ..
theorem Ho.set {c:Sc} {s:Sto} {m:Nat} {h:Hd} (hc:Ho c s m h) (h':Hd):Ho c (s.set m (.obj 0 (hf c h'))) m h':=IH (ID.mp hc).1
theorem Fg (w:Str) {c:Sc} (x:Nat) (η:En) (h:eV 0 η=some (c.s x)):lA (λ ds=>if ds.length<=IB then some (.tuple ds) else none) (aC (eC (.str w)) (aC (eV 0) aN)) η=some (rD c (w,x)) :=
 aR (ae rfl (ae h rfl)) (dR (by simp))
section
variable {c:Sc} {s:Sto} {m:Nat} {h:Hd}
theorem zA (ok:c.Ok) (hc:Ho c s m h) {p:List Nat} (ht:h.trail.length<=1000) (hp:p.length<=1000):aZ [.r m,.d (c.S p)] s=some (.d (Rw c (lead h p)),s.set m (.obj 0 (hf c { h with trail:=p }))):=by
 refine dB rfl (show kU eL ⟨[some (.r m),some (.d (c.S p)),none,none],s⟩=_ from ?_);have ft:∀ (x2 x3:Option D),dQ 0 "trail" (vw ⟨[some (.r m),some (.d (c.S p)),x2,x3],s⟩)=some (c.S h.trail):=λ x2 x3=>kr rfl hc rfl;refine ah (w1:=⟨[some (.r m),some (.d (c.S p)),some (.d (.int ((shN h.trail p).length:Nat))),none],s⟩) (aS (ar (aR (ae (aR (ae (ft _ _) (ae rfl rfl)) (HA ok ht)) rfl) ?_))) ?_
 ·show some (Jm (((shN h.trail p).map c.s).length:Nat))=_;rw [Iy]
 have e3:bj [none] (λ η=>((aC (eSl (dQ 0 "trail") (pS (eV 2)) pN) aN) η).bind rvS) (tgN 0) cy (lA (λ ds=>if ds.length<=IB then some (.tuple ds) else none) (aC (eC (.str "leave")) (aC (eV 0) aN))) (vw ⟨[some (.r m),some (.d (c.S p)),some (.d (.int ((shN h.trail p).length:Nat))),none],s⟩)=some ((wr "leave" (h.trail.drop (shN h.trail p).length).reverse).map (rD c)):=by
  refine fH (ds:=(h.trail.drop (shN h.trail p).length).reverse.map c.s) (cG (ae (vq (ft _ _) (xT rfl) rfl (Co _ _)) rfl) ?_) (by rw [Iy,Jr,Jv]; omega) ?_
  ·show some ((h.trail.drop (shN h.trail p).length).map c.s).reverse=_;rw [Kr]
  ·unfold wr;rw [JE];exact i9 (η:=[.un]) c.s (λ x=>rD c ("leave", x)) _ λ x hx=>⟨[.val (c.s x)],rfl,Fg "leave" x _ rfl⟩
 refine ah (w1:=⟨[some (.r m),some (.d (c.S p)),some (.d (.int ((shN h.trail p).length:Nat))),some (.d (Rw c (wr "leave" (h.trail.drop (shN h.trail p).length).reverse)))],s⟩) (aS (G2 e3)) ?_;refine ah (w1:=⟨[some (.r m),some (.d (c.S p)),some (.d (.int ((shN h.trail p).length:Nat))),some (.d (Rw c (wr "leave" (h.trail.drop (shN h.trail p).length).reverse)))],s.set m (.obj 0 (hf c { h with trail:=p }))⟩) ?_ (dC (ar ?_))
 ·rw [fg (d:=.d (c.S p)) (n:=m) (fs:=hf c h) (ar (aR (ae rfl rfl) rfl)) rfl hc (by simp [hf])];rfl
 ·refine ai rfl (eE (fH (ds:=(p.drop (shN h.trail p).length).map c.s) (jK (vq rfl (xT rfl) rfl (Co _ _)) rfl) (by rw [Iy,Jv]; omega) ?_)) (Ak (l:=wr "leave" (h.trail.drop (shN h.trail p).length).reverse) (m:=wr "enter" (p.drop (shN h.trail p).length)) (by unfold wr; rw [Iy,Jr,Jv]; omega) (by unfold wr; rw [Iy,Jv]; omega));unfold wr;rw [JE];exact i9 (η:=[.un]) c.s (λ x=>rD c ("enter", x)) _ λ x hx=>⟨[.val (c.s x)],rfl,Fg "enter" x _ rfl⟩
theorem CV (hc:Ho c s m h) (w:Str):av [.r m,.d (.str w)] s=some (.r s.length,s++[.lst ((tell h w).map λ r=>D.d (rD c r))]):=by
 refine dB rfl (show gA ⟨[some (.r m),some (.d (.str w))],s⟩=_ from dC ?_);have fh:dQ 0 "held_by" (vw ⟨[some (.r m),some (.d (.str w))],s⟩)=some (kD c h.held):=kr rfl hc rfl;unfold FQ tell;cases hh:h.held with
 | none =>
  rw [hh] at fh;rw [dH (b:=true) (cA (ai fh rfl rfl)),Ix,if_pos rfl];rfl
 | some x =>
  rw [hh] at fh;rw [dH (b:=false) (cA (ai fh rfl rfl)),Ix,if_neg IT];unfold mN;have e:aC (lA (λ ds=>if ds.length<=IB then some (.tuple ds) else none) (aC (eV 1) (aC (dQ 0 "held_by") aN))) aN (vw ⟨[some (.r m),some (.d (.str w))],s⟩)=some [rD c (w,x)]:=ae (aR (ae rfl (ae fh rfl)) (dR (by simp))) rfl;show IM (IM (aC _ aN _) gL) _=_;rw [e,Ix,iR (by simp)];rfl
theorem CW (ok:c.Ok) (hc:Ho c s m h) {q p:List Nat} (hq:h.pr=some q) (hl:q.length<=1000):cV [.r m,.d (c.S p)] s=some (.d (c.S ((shN q p).drop ((shN q p).length - 1))),s.set m (.obj 0 (hf c { h with pr:=none,held:=none }))):=by
 refine dB rfl (show jQ eL ⟨[some (.r m),some (.d (c.S p)),none],s⟩=_ from ?_);have fp:dQ 0 "pressed_at" (vw ⟨[some (.r m),some (.d (c.S p)),none],s⟩)=some (c.S q):=(kr rfl hc rfl).trans (by rw [hq]; rfl);have hc1:Ho c (s.set m (.obj 0 (hf c { h with pr:=none }))) m { h with pr:=none }:=hc.set _;refine ah (w1:=⟨[some (.r m),some (.d (c.S p)),some (.d (c.S (shN q p)))],s⟩) (aS (ar (aR (ae fp (ae rfl rfl)) (HA ok hl)))) ?_;refine ah (w1:=⟨[some (.r m),some (.d (c.S p)),some (.d (c.S (shN q p)))],s.set m (.obj 0 (hf c { h with pr:=none }))⟩) ?_ ?_
 ·rw [fg (d:=.d .none) (n:=m) (fs:=hf c h) (ar rfl) rfl hc (by simp [hf])];rfl
 refine ah (w1:=⟨[some (.r m),some (.d (c.S p)),some (.d (c.S (shN q p)))],s.set m (.obj 0 (hf c { h with pr:=none,held:=none }))⟩) ?_ (dC (ar (vq rfl (xT rfl) rfl (Cc _))));rw [fg (d:=.d .none) (n:=m) (fs:=hf c { h with pr:=none }) (ar rfl) rfl hc1 (by simp [hf])];show some (MOut.nx ⟨_,(s.set m _).set m _⟩)=_;rw [p5]; rfl
theorem Ig (ok:c.Ok) (K:Option Nat) (x:Nat):pEq (kD c K) (c.s x)=some (.bool (decide (K=some x))):=by
 cases K with
 | none =>
  show pEq .none (.str (c.nm x))=_;unfold pEq;rw [if_pos ⟨by rfl,lY (ok.ok x)⟩];simp [Jh]
 | some y =>
  show pEq (c.s y) (c.s x)=_;rw [ok.eqs]; simp
theorem ED (ok:c.Ok) (hc:Ho c s m h) (x:Nat) (mo:Int):bQ [.r m,.d (c.s x),.d (.int mo)] s=some (.d (Rw c (mx h x mo)),s.set m (.obj 0 (hf c (pR h x mo)))):=by
 refine dB rfl (show kn ⟨[some (.r m),some (.d (c.s x)),some (.d (.int mo)),none,none],s⟩=_ from ?_);refine ah (w1:=⟨[some (.r m),some (.d (c.s x)),some (.d (.int mo)),some (.d (.bool (decide (mo - h.mom<=20)))),none],s⟩) (aS (ar (ai (ai rfl (kr rfl hc rfl) rfl) rfl rfl))) ?_;have e4:qK (l2 pEq (dQ 0 "clicked") (eV 1)) (qK (eV 3) (Au (dQ 0 "was_double"))) (vw ⟨[some (.r m),some (.d (c.s x)),some (.d (.int mo)),some (.d (.bool (decide (mo - h.mom<=20)))),none],s⟩)=some (.bool (vW h x mo)) :=
  wD (ai (kr rfl hc rfl) rfl (Ig ok _ _)) (wD rfl (zD (kr rfl hc rfl)))
 refine ah (w1:=⟨[some (.r m),some (.d (c.s x)),some (.d (.int mo)),some (.d (.bool (decide (mo - h.mom<=20)))),some (.d (.bool (vW h x mo)))],s⟩) (aS (ar e4)) ?_;have hc1:=hc.set { h with clk:=some x };have hc2:=hc.set { h with clk:=some x,mom:=mo };refine ah (w1:=⟨[some (.r m),some (.d (c.s x)),some (.d (.int mo)),some (.d (.bool (decide (mo - h.mom<=20)))),some (.d (.bool (vW h x mo)))],s.set m (.obj 0 (hf c { h with clk:=some x }))⟩) ?_ ?_
 ·rw [fg (d:=.d (c.s x)) (n:=m) (fs:=hf c h) (ar rfl) rfl hc (by simp [hf])];rfl
 refine ah (w1:=⟨[some (.r m),some (.d (c.s x)),some (.d (.int mo)),some (.d (.bool (decide (mo - h.mom<=20)))),some (.d (.bool (vW h x mo)))],s.set m (.obj 0 (hf c { h with clk:=some x,mom:=mo }))⟩) ?_ ?_
 ·rw [fg (d:=.d (.int mo)) (n:=m) (fs:=hf c { h with clk:=some x }) (ar rfl) rfl hc1 (by simp [hf])];show some (MOut.nx ⟨_,(s.set m _).set m _⟩)=_;rw [p5]; rfl
 refine ah (w1:=⟨[some (.r m),some (.d (c.s x)),some (.d (.int mo)),some (.d (.bool (decide (mo - h.mom<=20)))),some (.d (.bool (vW h x mo)))],s.set m (.obj 0 (hf c (pR h x mo)))⟩) ?_ (dC (ar ?_))
 ·rw [fg (d:=.d (.bool (vW h x mo))) (n:=m) (fs:=hf c { h with clk:=some x,mom:=mo }) (ar rfl) rfl hc2 (by simp [hf])];show some (MOut.nx ⟨_,(s.set m _).set m _⟩)=_;rw [p5]; rfl
 ·have et:∀ w:Str,∀ η:En,eV 1 η=some (c.s x)->lA (λ ds=>if ds.length<=IB then some (.tuple ds) else none) (aC (eC (.str w)) (aC (eV 1) aN)) η=some (rD c (w,x)):=λ w η hη=>aR (ae rfl (ae hη rfl)) (dR (by simp));rw [wC (b:=vW h x mo) rfl];unfold mx;cases vW h x mo with
  | true =>
   rw [if_pos rfl,if_pos rfl];exact eE (cG (ae (et _ _ rfl) (ae (et _ _ rfl) rfl)) (iR (by simp)))
  | false =>
   rw [if_neg IT,if_neg IT];exact eE (cG (ae (et _ _ rfl) rfl) (iR (by simp)))
end
noncomputable def nf (c:Sc) (kd:Nat):List (Str×D):=[("scene", .d c.d),("known", .r kd)]
noncomputable def Bd (h:Hd):Prop:=h.trail.length<=7/\∀ q,h.pr=some q->q.length<=7
noncomputable def Ky (kvs:List (Key×D)):Prop:=∃ ns:List Int,keyIs' kvs=some ns/\ns.Nodup
theorem DY {kvs:List (Key×D)} {k:Key}:bE kvs k=none↔k∉kvs.map (·.1):=by
 induction kvs with
 | nil=>simp [bE]
 | cons e r ih =>
  by_cases h:e.1=k
  ·simp [bE,h]
  ·have h':¬ k=e.1:=λ z=>h z.symm;simp only [bE,JM,h,decide_false,IN,IY,h',false_or] at ih ⊢;exact ih
theorem wj {j:Int} {d:D}:∀ {kvs:List (Key×D)} {ns:List Int},keyIs' kvs=some ns->keyIs' (kvs++[(.inl j,d)])=some (ns++[j])
 | [],_,h=>by cases h; rfl
 | (.inl n,_)::r,_,h=>by
  obtain ⟨l,h1,h2⟩:=ab h;cases h2;show (keyIs' (r++[(.inl j,d)])).bind _=_;rw [wj h1]; rfl
 | (.inr _,_)::r,_,h=>by cases h
theorem Ky.look {kvs:List (Key×D)} {ns:List Int} (h:keyIs' kvs=some ns) (j:Int):bE kvs (.inl j)=none↔j∉ns:=by
 rw [DY,u9 h]
 simp
theorem Ky.app {kvs:List (Key×D)} (h:Ky kvs) {j:Int} {d:D} (hj:bE kvs (.inl j)=none):Ky (kvs++[(.inl j,d)]):=by
 obtain ⟨ns,h1,h2⟩:=h;refine ⟨ns++[j],wj h1,?_⟩;rw [List.nodup_append];refine ⟨h2,by simp,λ a ha b hb e=>?_⟩;rw [Jc.mp hb] at e;exact (Ky.look h1 j).mp hj (e ▸ ha)
structure HOk (c:Sc) (s:Sto) (n kd:Nat) (kvs:List (Key×D)) (K:Int->Hd):Prop where
 ob:s[n]?=some (.obj 1 (nf c kd))
 dc:s[kd]?=some (.dct kvs)
 dflt:∀ j:Int,bE kvs (.inl j)=none->K j=hd0
 hand:∀ (j:Int) d,bE kvs (.inl j)=some d->∃ m,d=.r m/\Ho c s m (K j)
 inj:∀ (j j':Int) m,bE kvs (.inl j)=some (.r m)->bE kvs (.inl j')=some (.r m)->j=j'
 bd:∀ j,Bd (K j)
 ky:Ky kvs
noncomputable def Own (n kd:Nat) (kvs:List (Key×D)) (i:Nat):Prop:=i=n\/i=kd\/∃ j:Int,bE kvs (.inl j)=some (.r i)
structure Stp (s s':Sto) (O O':Nat->Prop):Prop where
 len:s.length<=s'.length
 kp:∀ i,i < s.length->¬ O i->s'[i]?=s[i]?
 ow:∀ i,O' i->O i\/s.length<=i
noncomputable def upK (K:Int->Hd) (j:Int) (h:Hd):Int->Hd:=λ i=>if i=j then h else K i
theorem gy {s:Sto} {i:Nat} {x:Cell} (h:s[i]?=some x):i < s.length:=(ID.mp h).1
theorem Stp.trans {s s1 s2:Sto} {O O1 O2:Nat->Prop} (a:Stp s s1 O O1) (b:Stp s1 s2 O1 O2):Stp s s2 O O2:=⟨Jd a.len b.len,λ i hi ho=>by
 have n1:¬ O1 i:=λ z=>by
  rcases a.ow i z with y | y
  ·exact ho y
  ·omega
 rw [b.kp i (IV hi a.len) n1,a.kp i hi ho],λ i h=>by
 rcases b.ow i h with y | y
 ·exact a.ow i y
 ·exact .inr (Jd a.len y)⟩
section
variable {c:Sc} {s:Sto} {n kd:Nat} {kvs:List (Key×D)} {K:Int->Hd}
theorem HOk.lt (H:HOk c s n kd kvs K) {i:Nat} (h:Own n kd kvs i):i < s.length:=by
 rcases h with rfl | rfl | ⟨j,hj⟩
 ·exact gy H.ob
 ·exact gy H.dc
 ·obtain ⟨m,e,hm⟩:=H.hand j _ hj;cases e;exact gy hm
theorem HOk.frame (H:HOk c s n kd kvs K) {s':Sto} (hk:∀ i,Own n kd kvs i->s'[i]?=s[i]?):HOk c s' n kd kvs K where
 ob:=(hk n (.inl rfl)).trans H.ob
 dc:=(hk kd (.inr (.inl rfl))).trans H.dc
 dflt:=H.dflt
 hand:=λ j d h=>by
  obtain ⟨m,rfl,hm⟩:=H.hand j d h;exact ⟨m,rfl,(hk m (.inr (.inr ⟨j,h⟩))).trans hm⟩
 inj:=H.inj
 bd:=H.bd
 ky:=H.ky
theorem HOk.app (H:HOk c s n kd kvs K) (t:Sto):HOk c (s++t) n kd kvs K:=H.frame λ i hi=>IC (H.lt hi)
theorem uk {O:Nat->Prop} (t:Sto):Stp s (s++t) O O:=⟨by rw [IA]; omega,λ i hi _=>IC hi,λ _ h=>.inl h⟩
theorem rf {O:Nat->Prop} {i:Nat} {x:Cell} (h:O i):Stp s (s.set i x) O O:=⟨by rw [IZ]; exact IF _,λ k _ hk=>Iz (by intro e; exact hk (by rw [<- e]; exact h)),λ _ h=>.inl h⟩
theorem HOk.setX (H:HOk c s n kd kvs K) {i:Nat} {x:Cell} (h:¬ Own n kd kvs i):HOk c (s.set i x) n kd kvs K:=H.frame λ k hk=>Iz (by intro e; exact h (by rw [e]; exact hk))
theorem HOk.put (H:HOk c s n kd kvs K) {j:Int} {m:Nat} (hj:bE kvs (.inl j)=some (.r m)) {h':Hd} (hb:Bd h'):HOk c (s.set m (.obj 0 (hf c h'))) n kd kvs (upK K j h'):=by
 obtain ⟨m',e,hm⟩:=H.hand j _ hj;cases e;have hn:m≠n:=λ e=>by have:=H.ob; rw [<- e] at this; rw [hm] at this; cases this
 have hk:m≠kd:=λ e=>by have:=H.dc; rw [<- e] at this; rw [hm] at this; cases this
 refine ⟨by rw [Iz hn]; exact H.ob,by rw [Iz hk]; exact H.dc,λ i hi=>?_,λ i d hi=>?_,H.inj,λ i=>?_,H.ky⟩
 ·unfold upK;rw [if_neg (λ e=>by rw [e,hj] at hi; cases hi)];exact H.dflt i hi
 ·obtain ⟨mi,rfl,hmi⟩:=H.hand i d hi;refine ⟨mi,rfl,?_⟩;unfold upK;by_cases e:i=j
  ·subst e;rw [hj] at hi;cases hi;rw [if_pos rfl];exact hm.set h'
  ·rw [if_neg e];unfold Ho;rw [Iz λ z=>e (H.inj i j mi hi (by rw [<- z]; exact hj))];exact hmi
 ·unfold upK
  split
  ·exact hb
  ·exact H.bd i
theorem B8 (kvs:List (Key×D)) (k k':Key) (d:D):bE (kvs++[(k,d)]) k'=match bE kvs k' with | some x=>some x | none=>if k=k' then some d else none:=by
 unfold bE;rw [List.find?_append];cases kvs.find? λ kv=>decide (kv.1=k') with
 | some x=>rfl
 | none =>
  by_cases e:k=k'
  ·simp [e]
  ·simp [e]
theorem EC (c:Sc) (s0:Sto):b0 [.r s0.length] (s0++[.obj 0 []])=some (.d .none,s0++[.obj 0 (hf c hd0)]):=by
 have st:∀ c c':Cell,(s0++[c]).set s0.length c'=s0++[c']:=λ c c'=>by rw [JQ _ _ (IF _),Jq]; rfl
 have ge:∀ c:Cell,(s0++[c])[s0.length]?=some c:=λ c=>by rw [IJ (IF _),Jq]; rfl
 have p:∀ (f:Str) (e:En->Option Iw) (x:Iw) (fs:List (Str×D)),e (vw ⟨[some (.r s0.length)],s0++[.obj 0 fs]⟩)=some x->fs.length < 999->hG 0 f (mV 0) (mP e) ⟨[some (.r s0.length)],s0++[.obj 0 fs]⟩=some (.nx ⟨[some (.r s0.length)],s0++[.obj 0 (sq f (.d x) fs)]⟩):=λ f e x fs he hl=>by
  rw [fg (d:=.d x) (n:=s0.length) (fs:=fs) (ar he) rfl (ge _) hl];dsimp only;rw [st]
 show cZ 1 1 f7 [.r s0.length] (s0++[.obj 0 []])=_;refine u4 (w1:=⟨[some (.r s0.length)],s0++[.obj 0 (hf c hd0)]⟩) rfl ?_;show f7 ⟨[some (.r s0.length)],s0++[.obj 0 []]⟩=_;refine ah (p _ _ (.list []) _ (eE (cG rfl (iR (by simp)))) (by simp)) ?_;refine ah (p _ _ .none _ rfl (by decide +kernel)) ?_;refine ah (p _ _ .none _ rfl (by decide +kernel)) ?_;refine ah (p _ _ .none _ rfl (by decide +kernel)) ?_;refine ah (p _ _ (.int 0) _ rfl (by decide +kernel)) ?_;rw [p _ _ (.bool false) _ rfl (by decide +kernel)];rfl
theorem zB (H:HOk c s n kd kvs K) (hl:kvs.length < 1000) (j:Int):∃ s' m kvs',az [.r n,.d (.int j)] s=some (.r m,s')/\HOk c s' n kd kvs' K/\bE kvs' (.inl j)=some (.r m)/\Stp s s' (Own n kd kvs) (Own n kd kvs')/\kvs'.length<=kvs.length+1:=by
 have em:pB 0 b0 maN ⟨[some (.r n),some (.d (.int j))],s⟩=some (.r s.length,s++[.obj 0 (hf c hd0)]):=pA bD (EC c s);have hdc:(s++[Cell.obj 0 (hf c hd0)])[kd]?=some (.dct kvs):=by rw [IC (gy H.dc)]; exact H.dc
 have e0:qS (mV 0) "known" ⟨[some (.r n),some (.d (.int j))],s⟩=some (.r kd,s):=by
  unfold qS;show IM (some (D.r n,s)) _=_;rw [Ix];dsimp only;rw [H.ob];rfl
 have run:∀ d s',(match bE kvs (.inl j) with | some d=>some (d,s++[Cell.obj 0 (hf c hd0)]) | none=>if kvs.length < IB then some (D.r s.length,(s++[Cell.obj 0 (hf c hd0)]).set kd (.dct (kvs++[(.inl j,.r s.length)]))) else none)=some (d,s')->az [.r n,.d (.int j)] s=some (d,s'):=λ d s' h=>by
  refine dB rfl (show iT b0 ⟨[some (.r n),some (.d (.int j))],s⟩=_ from dC ?_);unfold B3;rw [e0,Ix];dsimp only;rw [H.dc];dsimp only;rw [show mP (eV 1) (⟨[some (.r n),some (.d (.int j))],s⟩:Wd)=some (.d (.int j),s) from ar rfl,Ix];dsimp only;show IM (some (Sum.inl j)) _=_;rw [Ix,em,Ix];dsimp only;rw [hdc];exact h
 cases hj:bE kvs (.inl j) with
 | some d =>
  obtain ⟨m,rfl,hm⟩:=H.hand j d hj;exact ⟨_,m,kvs,run _ _ (by rw [hj]),H.app _,hj,uk _,Nat.le_succ _⟩
 | none =>
  have hn:n≠kd:=λ e=>by have:=H.dc; rw [<- e,H.ob] at this; cases this
  have hk:kd < s.length:=gy H.dc;have lk:∀ i:Int,bE (kvs++[(Sum.inl j,D.r s.length)]) (.inl i)=match bE kvs (.inl i) with | some x=>some x | none=>if i=j then some (.r s.length) else none:=λ i=>by
   rw [B8];cases bE kvs (.inl i) with
   | some x=>rfl
   | none =>
    by_cases e:i=j
    ·simp [e]
    ·have:¬ (Sum.inl j:Key)=Sum.inl i:=λ z=>e (by cases z; rfl)
     simp [e,this]
  refine ⟨(s++[Cell.obj 0 (hf c hd0)]).set kd (.dct (kvs++[(.inl j,.r s.length)])),s.length,kvs++[(.inl j,.r s.length)],run _ _ ?_,?_,?_,?_,by simp⟩
  ·rw [hj];dsimp only;rw [if_pos (IV hl (big (by decide)))]
  ·refine ⟨?_,?_,λ i hi=>?_,λ i d hi=>?_,λ i i' m h1 h2=>?_,H.bd,H.ky.app hj⟩
   ·rw [Iz (Ne.symm hn),IC (gy H.ob)]; exact H.ob
   ·exact IH (by rw [IA]; omega)
   ·rw [lk] at hi;cases q:bE kvs (.inl i) with
    | some x=>rw [q] at hi; cases hi
    | none=>exact H.dflt i q
   ·rw [lk] at hi;cases q:bE kvs (.inl i) with
    | some x =>
     rw [q] at hi;cases hi;obtain ⟨m,rfl,hm⟩:=H.hand i _ q;have hmk:kd≠m:=λ e=>by have:=H.dc; rw [e,hm] at this; cases this
     refine ⟨m,rfl,?_⟩;unfold Ho;rw [Iz hmk,IC (gy hm)]; exact hm
    | none =>
     rw [q] at hi;dsimp only at hi;split at hi
     ·rename_i e;cases hi;refine ⟨s.length,rfl,?_⟩;unfold Ho;rw [Iz (Je hk),IJ (IF _),Jq,H.dflt i q]; rfl
     ·cases hi
   ·rw [lk] at h1 h2;cases q1:bE kvs (.inl i) with
    | some x =>
     rw [q1] at h1;cases h1;cases q2:bE kvs (.inl i') with
     | some x' =>
      rw [q2] at h2;cases h2;exact H.inj i i' m q1 q2
     | none =>
      rw [q2] at h2;dsimp only at h2;split at h2
      ·cases h2
       have:=H.lt (.inr (.inr ⟨i,q1⟩))
       omega
      ·cases h2
    | none =>
     rw [q1] at h1;dsimp only at h1;split at h1
     ·rename_i e1;cases h1;cases q2:bE kvs (.inl i') with
      | some x' =>
       rw [q2] at h2;cases h2
       have:=H.lt (.inr (.inr ⟨i',q2⟩))
       omega
      | none =>
       rw [q2] at h2;dsimp only at h2;split at h2
       ·rename_i e2;rw [e1,e2]
       ·cases h2
     ·cases h1
  ·rw [lk,hj]
   simp
  ·refine ⟨by rw [IZ,IA]; omega,λ i hi ho=>?_,λ i hi=>?_⟩
   ·rw [Iz (λ e=>ho (.inr (.inl e.symm))),IC hi]
   ·rcases hi with e | e | ⟨i',hi⟩
    ·exact .inl (.inl e)
    ·exact .inl (.inr (.inl e))
    ·rw [lk] at hi;cases q:bE kvs (.inl i') with
     | some x=>rw [q] at hi; cases hi; exact .inl (.inr (.inr ⟨i',q⟩))
     | none =>
      rw [q] at hi;dsimp only at hi;split at hi
      ·cases hi; exact .inr (IF _)
      ·cases hi
end
noncomputable def hpth (ps:List Nat):List Nat->List Nat
 | []=>[]
 | q::_=>P ps q
theorem Ip {c:Sc} {ps pnt:List Nat} {Dm:Nat->Prop} (t:Tr c ps Dm pnt) (x y:Int):aL [c.d,.int x,.int y]=some (c.S (hpth ps (vg c.geo ps pnt x y)))/\(hpth ps (vg c.geo ps pnt x y)).length<=7:=by
 have e1:mF [c.d,.int x,.int y]=some (hdD c (vg c.geo ps pnt x y)):=kT rfl (show vk iC fY [.val c.d,.val (.int x),.val (.int y)]=_ from ng (aR (ae (aR (ae rfl rfl) (CP t)) (ae rfl (ae rfl rfl))) (Ez t x y)));have hin:∀ q∈vg c.geo ps pnt x y,Dm q:=λ q hq=>Bj t (JS.mp hq).1;generalize vg c.geo ps pnt x y=l at *;refine ⟨kT rfl (show nr mF (aq 13) [.val c.d,.val (.int x),.val (.int y),.un]=_ from gj (η1:=[.val c.d,.val (.int x),.val (.int y),.val (hdD c l)]) (j7 (aR (ae rfl (ae rfl (ae rfl rfl))) e1)) (ng ?_)),?_⟩
 ·cases l with
  | nil =>
   rw [wC (b:=true) (cA (ai rfl rfl rfl)),if_pos rfl];exact eE (cG rfl (iR (by simp)))
  | cons q r =>
   rw [wC (b:=false) (cA (ai rfl rfl rfl)),if_neg IT];exact aR (ae rfl (ae rfl rfl)) (sW t (hin q IW))
 ·cases l with
  | nil=>simp [hpth]
  | cons q r=>exact P_7 t (hin q IW)
noncomputable def Res (c:Sc) (s:Sto) (n kd:Nat) (kvs:List (Key×D)) (K':Int->Hd) (out:Option (D×Sto)) (d:D):Prop :=
 ∃ s' kvs',out=some (d,s')/\HOk c s' n kd kvs' K'/\Stp s s' (Own n kd kvs) (Own n kd kvs')/\kvs'.length<=kvs.length+1
theorem uz (K:Int->Hd) (j:Int):upK K j (K j)=K:=by
 funext i
 unfold upK
 split
 ·rename_i e; rw [e]
 ·rfl
noncomputable def mvR (h:Hd) (p:List Nat):List (Str×Nat):=if h.held=none then lead h p++wr "move" (p.drop (p.length - 1)) else tell h "move"
noncomputable def mvH (h:Hd) (p:List Nat):Hd:=if h.held=none then { h with trail:=p } else h
noncomputable def yo (h:Hd) (p:List Nat):Hd:=if h.held=none then { h with pr:=some p,trail:=p,held:=p.getLast? } else { h with pr:=some p }
noncomputable def dnR (h:Hd) (p:List Nat):List (Str×Nat):=if h.pr=none then (if h.held=none then lead { h with pr:=some p } p else [])++tell (yo h p) "down" else []
noncomputable def dnH (h:Hd) (p:List Nat):Hd:=if h.pr=none then yo h p else h
theorem zm {c:Sc}:∀ l:List (Str×Nat),ua (l.map λ r=>D.d (rD c r))=some (l.map (rD c))
 | []=>rfl
 | x::r=>by
  rw [IN];show ((some (rD c x)).bind λ y=>(ua (r.map λ r=>D.d (rD c r))).bind λ xs=>some (y::xs))=_;rw [zm r]; rfl
theorem ny (h:Hd) (w:Str):(tell h w).length<=1:=by
 unfold tell
 split <;> simp
theorem nJ {h:Hd} {p:List Nat} (ht:h.trail.length<=7) (hp:p.length<=7):(lead h p).length<=14:=by
 unfold lead wr;rw [IA,Iy,Iy,Jr,Jv,Jv]; omega
section
variable {c:Sc} {s:Sto} {n kd m:Nat} {kvs:List (Key×D)} {K:Int->Hd} {h:Hd}
theorem fzT (hc:Ho c s m h) {w:Str} {η:MEn} {i:Nat} (hi:η[i]?=some (some (.r m))):mFz (bG 0 "tell_holder" av (mV i) (maC (mP (eC (.str w))) maN)) ⟨η,s⟩=some (.d (Rw c (tell h w)),s++[.fz (Rw c (tell h w))]):=by
 have em:bG 0 "tell_holder" av (mV i) (maC (mP (eC (.str w))) maN) ⟨η,s⟩=some (.r s.length,s++[.lst ((tell h w).map λ r=>D.d (rD c r))]):=b8 (n:=m) (by unfold mV; rw [hi]) hc rfl (aD (s1:=s) (ar rfl) bD) (CV hc w);unfold mFz;rw [em,Ix];dsimp only;rw [show (s++[Cell.lst ((tell h w).map λ r=>D.d (rD c r))])[s.length]?=some (.lst ((tell h w).map λ r=>D.d (rD c r))) by rw [IJ (IF _),Jq]; rfl];dsimp only;rw [zm,Ix,JQ _ _ (IF _),Jq];rfl
theorem Ir (ok:c.Ok) (H:HOk c s n kd kvs K) (hl:kvs.length < 1000) (j:Int) {mo:Iw} {x y:Int} {p:List Nat} (hp:aL [c.d,.int x,.int y]=some (c.S p)) (lp:p.length<=7) :
  Res c s n kd kvs (upK K j (mvH (K j) p)) (cB [.r n,.d (.int j),.d mo,.d (.int x),.d (.int y)] s) (.d (Rw c (mvR (K j) p))):=by
 obtain ⟨s1,m,kvs1,e1,H1,hj,st,hl1⟩:=zB H hl j;obtain ⟨m',em,hm⟩:=H1.hand j _ hj;cases em;have hb:=H1.bd j;have hown:Own n kd kvs1 m:=.inr (.inr ⟨j,hj⟩);have hs5:bG 1 "hand_of" az (mV 0) (maC (mP (eV 1)) maN) ⟨[some (.r n),some (.d (.int j)),some (.d mo),some (.d (.int x)),some (.d (.int y)),none,none],s⟩=some (.r m,s1):=b8 (n:=n) rfl H.ob rfl (aD (s1:=s) (ar rfl) bD) e1;have fh:dQ 5 "held_by" (vw ⟨[some (.r n),some (.d (.int j)),some (.d mo),some (.d (.int x)),some (.d (.int y)),some (.r m),none],s1⟩)=some (kD c (K j).held):=kr rfl hm rfl;cases hh:(K j).held with
 | some k =>
  rw [hh] at fh;refine ⟨s1++[.fz (Rw c (tell (K j) "move"))],kvs1,?_,?_,st.trans (uk _),hl1⟩
  ·unfold mvR;rw [if_neg (by rw [hh]; simp)];refine dB rfl (show iE az av aL aZ ⟨[some (.r n),some (.d (.int j)),some (.d mo),some (.d (.int x)),some (.d (.int y)),none,none],s⟩=_ from ?_);refine ah (aS hs5) (rN (qR (s:=s1) (dH (cA (ai fh rfl rfl))) (dC (fzT hm rfl))))
  ·unfold mvH;rw [if_neg (by rw [hh]; simp),uz];exact H1.app _
 | none =>
  rw [hh] at fh;have el:=zA ok hm (p:=p) (by have:=hb.1; omega) (by omega);refine ⟨s1.set m (.obj 0 (hf c { K j with trail:=p })),kvs1,?_,?_,st.trans (rf hown),hl1⟩
  ·unfold mvR;rw [if_pos hh];refine dB rfl (show iE az av aL aZ ⟨[some (.r n),some (.d (.int j)),some (.d mo),some (.d (.int x)),some (.d (.int y)),none,none],s⟩=_ from ?_);refine ah (aS hs5) (ah (rO (s:=s1) (dH (cA (ai fh rfl rfl)))) ?_);refine ah (w1:=⟨[some (.r n),some (.d (.int j)),some (.d mo),some (.d (.int x)),some (.d (.int y)),some (.r m),some (.d (c.S p))],s1⟩) (aS (ar (aR (ae (kr rfl H1.ob rfl) (ae rfl (ae rfl rfl))) hp))) (dC ?_);refine sG (b8 (n:=m) rfl hm rfl (aD (s1:=s1) (ar rfl) bD) el) (ar (eE (fH (ds:=(p.drop (p.length - 1)).map c.s) (jK (vq rfl (xT rfl) rfl (Cc _)) rfl) (by rw [Iy,Jv]; omega) (r:=some ((wr "move" (p.drop (p.length - 1))).map (rD c))) ?_))) rfl rfl (Ak (by have:=nJ (h:=K j) hb.1 lp; omega) (by unfold wr; rw [Iy,Jv]; omega));unfold wr;rw [JE];exact i9 (η:=[.un]) c.s (λ x=>rD c ("move", x)) _ λ x hx=>⟨[.val (c.s x)],rfl,Fg "move" x _ rfl⟩
  ·unfold mvH;rw [if_pos hh];exact H1.put hj ⟨lp,hb.2⟩
end
noncomputable def oZ (h:Hd) (mo:Int):List Nat->Hd
 | []=>{ h with pr:=none,held:=none }
 | k::_=>pR { h with pr:=none,held:=none } k mo
noncomputable def upC (h:Hd) (mo:Int):List Nat->List (Str×Nat)
 | []=>[]
 | k::_=>mx { h with pr:=none,held:=none } k mo
noncomputable def upN (q p:List Nat):List Nat:=(shN q p).drop ((shN q p).length - 1)
noncomputable def upR (h:Hd) (p:List Nat) (mo:Int):List (Str×Nat):=match h.pr with | none=>[] | some q=>(tell h "up" ++ upC h mo (upN q p))++lead (oZ h mo (upN q p)) p
noncomputable def upH (h:Hd) (p:List Nat) (mo:Int):Hd:=match h.pr with | none=>h | some q=>{ oZ h mo (upN q p) with trail:=p }
theorem zE (K:Int->Hd) (j:Int) (a b:Hd):upK (upK K j a) j b=upK K j b:=by
 funext i
 unfold upK
 split <;> rfl
theorem C5 (q p:List Nat):(upN q p).length<=1:=by
 unfold upN;rw [Jv]; omega
theorem xG {s s':Sto} {O:Nat->Prop} {L:Nat} {x:Cell} (a:Stp s s' O O) (h:s.length<=L):Stp s (s'.set L x) O O:=⟨by rw [IZ]; exact a.len,λ i hi ho=>by rw [Iz (by omega)]; exact a.kp i hi ho,a.ow⟩
theorem D5 {c:Sc} (p:List Nat):(if decide (p≠[])=true then pIx (c.S p) (.int (-1)) else some .none)=some (kD c p.getLast?):=by
 cases p with
 | nil=>rfl
 | cons a r =>
  rw [if_pos (by simp)];show atI ((a::r).map c.s) (-1)=_
  have:atI (a::r) (-1)=some ((a::r).getLast (by simp)):=by
   unfold atI ixN;rw [if_neg (by decide),if_pos (by rw [IX]; omega),Ix];rw [show (-1+((a::r).length:Int)).toNat=(a::r).length - 1 by rw [IX]; omega,<- List.getLast?_eq_getElem?,List.getLast?_eq_some_getLast (by simp)]
  rw [Il this,List.getLast?_eq_some_getLast (by simp)];rfl
section
variable {c:Sc} {s:Sto} {n kd:Nat} {kvs:List (Key×D)} {K:Int->Hd}
theorem Iu (ok:c.Ok) (H:HOk c s n kd kvs K) (hl:kvs.length < 1000) (j:Int) {mo:Iw} {x y:Int} {p:List Nat} (hp:aL [c.d,.int x,.int y]=some (c.S p)) (lp:p.length<=7) :
  Res c s n kd kvs (upK K j (dnH (K j) p)) (bP [.r n,.d (.int j),.d mo,.d (.int x),.d (.int y)] s) (.d (Rw c (dnR (K j) p))):=by
 obtain ⟨s1,m,kvs1,e1,H1,hj,st,hl1⟩:=zB H hl j;obtain ⟨m',em,hm⟩:=H1.hand j _ hj;cases em;have hb:=H1.bd j;have hown:Own n kd kvs1 m:=.inr (.inr ⟨j,hj⟩);have hs5:bG 1 "hand_of" az (mV 0) (maC (mP (eV 1)) maN) ⟨[some (.r n),some (.d (.int j)),some (.d mo),some (.d (.int x)),some (.d (.int y)),none,none,none],s⟩=some (.r m,s1):=b8 (n:=n) rfl H.ob rfl (aD (s1:=s) (ar rfl) bD) e1;have fp:dQ 5 "pressed_at" (vw ⟨[some (.r n),some (.d (.int j)),some (.d mo),some (.d (.int x)),some (.d (.int y)),some (.r m),none,none],s1⟩)=some (oL c (K j).pr):=kr rfl hm rfl;cases hpr:(K j).pr with
 | some q =>
  rw [hpr] at fp;refine ⟨s1,kvs1,?_,?_,st,hl1⟩
  ·unfold dnR;rw [if_neg (by rw [hpr]; simp)];refine dB rfl (show iF az aL aZ av ⟨[some (.r n),some (.d (.int j)),some (.d mo),some (.d (.int x)),some (.d (.int y)),none,none,none],s⟩=_ from ?_);exact ah (aS hs5) (rN (qR (s:=s1) (dH (cA (ai fp rfl rfl))) (dC (ar (eE (cG rfl (iR (by simp))))))))
  ·unfold dnH;rw [if_neg (by rw [hpr]; simp),uz];exact H1
 | none =>
  rw [hpr] at fp;have hm2:=hm.set { K j with pr:=some p };have fin:∀ (h2:Hd) (rows:List (Str×Nat)),rows.length<=14->Bd h2->h2=yo (K j) p->rows=(if (K j).held=none then lead { K j with pr:=some p } p else []) ->
    (mIf (tPv (bT (l2 (ss false) (dQ 5 "held_by") (eC .none)))) (bb (dP 7 (bG 0 "lead" aZ (mV 5) (maC (mP (eV 6)) maN)))
     (hG 0 "held_by" (mV 5) (mP (vIf (bTr (eV 6)) (l2 pIx (eV 6) (l1 xU (eC (.int 1)))) (eC .none))))) mNx)
     ⟨[some (.r n),some (.d (.int j)),some (.d mo),some (.d (.int x)),some (.d (.int y)),some (.r m),some (.d (c.S p)),some (.d (.list []))],s1.set m (.obj 0 (hf c { K j with pr:=some p }))⟩
     = some (.nx ⟨[some (.r n),some (.d (.int j)),some (.d mo),some (.d (.int x)),some (.d (.int y)),some (.r m),some (.d (c.S p)),some (.d (Rw c rows))],s1.set m (.obj 0 (hf c h2))⟩) ->
    Res c s n kd kvs (upK K j (dnH (K j) p)) (bP [.r n,.d (.int j),.d mo,.d (.int x),.d (.int y)] s) (.d (Rw c (dnR (K j) p))):=λ h2 rows lr b2 eh er ei=>by
   have hm3:=hm.set h2;refine ⟨s1.set m (.obj 0 (hf c h2))++[.fz (Rw c (tell h2 "down"))],kvs1,?_,?_,(st.trans (rf hown)).trans (uk _),hl1⟩
   ·unfold dnR;rw [if_pos hpr,<- er,<- eh];refine dB rfl (show iF az aL aZ av ⟨[some (.r n),some (.d (.int j)),some (.d mo),some (.d (.int x)),some (.d (.int y)),none,none,none],s⟩=_ from ?_);refine ah (aS hs5) (ah (rO (s:=s1) (dH (cA (ai fp rfl rfl)))) ?_);refine ah (w1:=⟨[some (.r n),some (.d (.int j)),some (.d mo),some (.d (.int x)),some (.d (.int y)),some (.r m),some (.d (c.S p)),none],s1⟩) (aS (ar (aR (ae (kr rfl H1.ob rfl) (ae rfl (ae rfl rfl))) hp))) ?_;refine ah (w1:=⟨[some (.r n),some (.d (.int j)),some (.d mo),some (.d (.int x)),some (.d (.int y)),some (.r m),some (.d (c.S p)),none],s1.set m (.obj 0 (hf c { K j with pr:=some p }))⟩) ?_ ?_
    ·rw [fg (d:=.d (c.S p)) (n:=m) (fs:=hf c (K j)) (ar rfl) rfl hm (by simp [hf])];rfl
    refine ah (w1:=⟨[some (.r n),some (.d (.int j)),some (.d mo),some (.d (.int x)),some (.d (.int y)),some (.r m),some (.d (c.S p)),some (.d (.list []))],s1.set m (.obj 0 (hf c { K j with pr:=some p }))⟩) (aS (ar (eE (cG rfl (iR (by simp)))))) ?_;refine ah ei (dC ?_);exact sG (ar rfl) (fzT hm3 rfl) rfl rfl (Ak (by omega) (by have:=ny h2 "down"; omega))
   ·unfold dnH;rw [if_pos hpr,<- eh];exact (H1.put hj b2).app _
  have fh:dQ 5 "held_by" (vw ⟨[some (.r n),some (.d (.int j)),some (.d mo),some (.d (.int x)),some (.d (.int y)),some (.r m),some (.d (c.S p)),some (.d (.list []))],s1.set m (.obj 0 (hf c { K j with pr:=some p }))⟩)=some (kD c (K j).held):=kr rfl hm2 rfl;cases hh:(K j).held with
  | some k =>
   rw [hh] at fh;refine fin { K j with pr:=some p } [] (by simp) ⟨hb.1,λ q e=>by cases e; exact lp⟩ (by unfold yo; rw [if_neg (by rw [hh]; simp)]) (by rw [if_neg (by rw [hh]; simp)]) ?_;exact rO (dH (cA (ai fh rfl rfl)))
  | none =>
   rw [hh] at fh;have el:=zA ok hm2 (p:=p) (by have:=hb.1; show (K j).trail.length<=1000; omega) (by omega);have hm3:=hm.set { K j with pr:=some p,trail:=p };rw [p5] at el;refine fin { K j with pr:=some p,trail:=p,held:=p.getLast? } (lead { K j with pr:=some p } p) (nJ (h:={ K j with pr:=some p }) hb.1 lp) ⟨lp,λ q e=>by cases e; exact lp⟩ (by unfold yo; rw [if_pos hh]) (by rw [if_pos hh]) ?_;refine qR (s:=s1.set m (.obj 0 (hf c { K j with pr:=some p }))) (dH (cA (ai fh rfl rfl))) ?_;refine ah (w1:=⟨[some (.r n),some (.d (.int j)),some (.d mo),some (.d (.int x)),some (.d (.int y)),some (.r m),some (.d (c.S p)),some (.d (Rw c (lead { K j with pr:=some p } p)))],s1.set m (.obj 0 (hf c { K j with pr:=some p,trail:=p }))⟩) (aS (b8 (n:=m) rfl hm2 rfl (aD (ar rfl) bD) el)) ?_;rw [fg (d:=.d (kD c p.getLast?)) (n:=m) (fs:=hf c { K j with pr:=some p,trail:=p }) (ar ?_) rfl hm3 (by simp [hf])]
   ·show some (MOut.nx ⟨_,(s1.set m _).set m _⟩)=_;rw [p5];show some (MOut.nx ⟨_,s1.set m (.obj 0 (sq "held_by" (.d (kD c p.getLast?)) (hf c { K j with pr:=some p,trail:=p })))⟩)=_;rfl
   ·rw [wC (b:=decide (p≠[])) (by cases p <;> rfl)];exact D5 p
end
theorem qW (h:Hd) (k:Nat) (mo:Int):(mx h k mo).length<=2:=by
 unfold mx
 split <;> simp
section
variable {c:Sc} {s:Sto} {n kd:Nat} {kvs:List (Key×D)} {K:Int->Hd}
theorem Iq (ok:c.Ok) (H:HOk c s n kd kvs K) (hl:kvs.length < 1000) (j:Int) {mo:Int} {x y:Int} {p:List Nat} (hp:aL [c.d,.int x,.int y]=some (c.S p)) (lp:p.length<=7) :
  Res c s n kd kvs (upK K j (upH (K j) p mo)) (dO [.r n,.d (.int j),.d (.int mo),.d (.int x),.d (.int y)] s) (.d (Rw c (upR (K j) p mo))):=by
 obtain ⟨s1,m,kvs1,e1,H1,hj,st,hl1⟩:=zB H hl j;obtain ⟨m',em,hm⟩:=H1.hand j _ hj;cases em;have hb:=H1.bd j;have hown:Own n kd kvs1 m:=.inr (.inr ⟨j,hj⟩);have hs5:bG 1 "hand_of" az (mV 0) (maC (mP (eV 1)) maN) ⟨[some (.r n),some (.d (.int j)),some (.d (.int mo)),some (.d (.int x)),some (.d (.int y)),none,none,none,none],s⟩=some (.r m,s1):=b8 (n:=n) rfl H.ob rfl (aD (s1:=s) (ar rfl) bD) e1;have fp:dQ 5 "pressed_at" (vw ⟨[some (.r n),some (.d (.int j)),some (.d (.int mo)),some (.d (.int x)),some (.d (.int y)),some (.r m),none,none,none],s1⟩)=some (oL c (K j).pr):=kr rfl hm rfl;cases hpr:(K j).pr with
 | none =>
  rw [hpr] at fp;refine ⟨s1,kvs1,?_,?_,st,hl1⟩
  ·unfold upR;rw [hpr];refine dB rfl (show jP az aL av cV bQ aZ ⟨[some (.r n),some (.d (.int j)),some (.d (.int mo)),some (.d (.int x)),some (.d (.int y)),none,none,none,none],s⟩=_ from ?_);exact ah (aS hs5) (rN (qR (s:=s1) (dH (cA (ai fp rfl rfl))) (dC (ar (eE (cG rfl (iR (by simp))))))))
  ·unfold upH;rw [hpr];dsimp only;rw [uz];exact H1
 | some q =>
  rw [hpr] at fp;have lq:=hb.2 q hpr;have hmL:m < s1.length:=gy hm;have hnL:¬ Own n kd kvs1 s1.length:=λ z=>JW _ (H1.lt z);have hm2:Ho c (s1++[Cell.lst ((tell (K j) "up").map λ r=>D.d (rD c r))]) m (K j):=by
   unfold Ho;rw [IC hmL]; exact hm
  have elg:=CW ok hm2 (p:=p) hpr (by omega);have hm3:=hm2.set { K j with pr:=none,held:=none };have H3:HOk c ((s1++[Cell.lst ((tell (K j) "up").map λ r=>D.d (rD c r))]).set m (.obj 0 (hf c { K j with pr:=none,held:=none }))) n kd kvs1 (upK K j { K j with pr:=none,held:=none }):=(H1.app _).put hj ⟨hb.1,λ q e=>by cases e⟩;have S3:Stp s1 ((s1++[Cell.lst ((tell (K j) "up").map λ r=>D.d (rD c r))]).set m (.obj 0 (hf c { K j with pr:=none,held:=none }))) (Own n kd kvs1) (Own n kd kvs1):=(uk _).trans (rf hown);have L3:((s1++[Cell.lst ((tell (K j) "up").map λ r=>D.d (rD c r))]).set m (.obj 0 (hf c { K j with pr:=none,held:=none })))[s1.length]?=some (.lst ((tell (K j) "up").map λ r=>D.d (rD c r))):=by
   rw [Iz (Je hmL),IJ (IF _),Jq]; rfl
  obtain ⟨s3,hs3⟩:∃ s3:Sto,s3=(s1++[Cell.lst ((tell (K j) "up").map λ r=>D.d (rD c r))]).set m (.obj 0 (hf c { K j with pr:=none,held:=none })):=⟨_,rfl⟩;rw [<- hs3] at elg hm3 H3 S3 L3;have loop:∃ (x8:Option D) (s4:Sto),mGo [8] (tgN 8) (km (qv (mV 7) (bG 0 "click" bQ (mV 5) (maC (mP (eV 8)) (maC (mP (eV 2)) maN))))) ((upN q p).map c.s) ⟨[some (.r n),some (.d (.int j)),some (.d (.int mo)),some (.d (.int x)),some (.d (.int y)),some (.r m),some (.d (c.S p)),some (.r s1.length),none],s3⟩
    = some (.nx ⟨[some (.r n),some (.d (.int j)),some (.d (.int mo)),some (.d (.int x)),some (.d (.int y)),some (.r m),some (.d (c.S p)),some (.r s1.length),x8],s4⟩)
    /\ s4[s1.length]?=some (.lst ((tell (K j) "up" ++ upC (K j) mo (upN q p)).map λ r=>D.d (rD c r)))/\Ho c s4 m (oZ (K j) mo (upN q p))/\HOk c s4 n kd kvs1 (upK K j (oZ (K j) mo (upN q p)))/\Stp s1 s4 (Own n kd kvs1) (Own n kd kvs1):=by
   have hlen:=C5 q p;cases hN:upN q p with
   | nil=>exact ⟨none,s3,rfl,by simpa [upC] using L3,hm3,H3,S3⟩
   | cons k r =>
    have hr:r=[]:=by
     rw [hN] at hlen;simp at hlen;exact hlen
    subst hr;have ec:=ED ok hm3 k mo;have hm4:=hm3.set (pR { K j with pr:=none,held:=none } k mo);have L4:(s3.set m (.obj 0 (hf c (pR { K j with pr:=none,held:=none } k mo))))[s1.length]?=some (.lst ((tell (K j) "up").map λ r=>D.d (rD c r))):=by
     rw [Iz (Je hmL)]; exact L3
    have H4:=H3.put (h':=pR { K j with pr:=none,held:=none } k mo) hj ⟨hb.1,λ q e=>by cases e⟩;rw [zE] at H4;have S4:Stp s1 (s3.set m (.obj 0 (hf c (pR { K j with pr:=none,held:=none } k mo)))) (Own n kd kvs1) (Own n kd kvs1):=S3.trans (rf hown);generalize s3.set m (.obj 0 (hf c (pR { K j with pr:=none,held:=none } k mo)))=s4 at *;have hlt:s1.length < s4.length:=gy L4;refine ⟨some (.d (c.s k)),s4.set s1.length (.lst ((tell (K j) "up" ++ mx { K j with pr:=none,held:=none } k mo).map λ r=>D.d (rD c r))),?_,IH hlt,?_,H4.setX hnL,xG S4 (IF _)⟩
    ·rw [IN,Kv];unfold mGo;rw [pz (by simp),Ix];have ex:km (qv (mV 7) (bG 0 "click" bQ (mV 5) (maC (mP (eV 8)) (maC (mP (eV 2)) maN)))) ⟨[some (.r n),some (.d (.int j)),some (.d (.int mo)),some (.d (.int x)),some (.d (.int y)),some (.r m),some (.d (c.S p)),some (.r s1.length),some (.d (c.s k))],s3⟩
       = some (.nx ⟨[some (.r n),some (.d (.int j)),some (.d (.int mo)),some (.d (.int x)),some (.d (.int y)),some (.r m),some (.d (c.S p)),some (.r s1.length),some (.d (c.s k))],s4.set s1.length (.lst ((tell (K j) "up" ++ mx { K j with pr:=none,held:=none } k mo).map λ r=>D.d (rD c r)))⟩):=by
      refine lK (d:=.d .none) ?_;unfold qv;show IM (some (D.r s1.length,s3)) _=_;rw [Ix];dsimp only;rw [L3];dsimp only;rw [b8 (n:=m) (d:=.d (Rw c (mx { K j with pr:=none,held:=none } k mo))) (s2:=s4) rfl hm3 rfl (aD (s1:=s3) (ar rfl) (aD (s1:=s3) (ar rfl) bD)) ec,Ix];show IM (some (Rw c (mx { K j with pr:=none,held:=none } k mo))) _=_;rw [Ix];unfold Rw;dsimp only;rw [L4];dsimp only;rw [if_pos (big (by rw [Iy,Iy]; exact Jd (Nat.add_le_add (ny _ _) (qW _ _ _)) (by decide))),Js,JE];rfl
     show IM (km _ ⟨[some (.r n),some (.d (.int j)),some (.d (.int mo)),some (.d (.int x)),some (.d (.int y)),some (.r m),some (.d (c.S p)),some (.r s1.length),some (.d (c.s k))],s3⟩) _=_;rw [ex];rfl
    ·unfold Ho;rw [Iz (Kx hmL)]; exact hm4
  obtain ⟨x8,s4,eg,L4,hm4,H4,S4⟩:=loop;have hlt:s1.length < s4.length:=gy L4;have lt14:(oZ (K j) mo (upN q p)).trail.length<=7:=by
   cases upN q p with
   | nil=>exact hb.1
   | cons k r=>exact hb.1
  have lC:(upC (K j) mo (upN q p)).length<=2:=by
   cases upN q p with
   | nil=>simp [upC]
   | cons k r=>exact qW _ _ _
  have hm5:Ho c (s4.set s1.length (.fz (Rw c (tell (K j) "up" ++ upC (K j) mo (upN q p))))) m (oZ (K j) mo (upN q p)):=by
   unfold Ho;rw [Iz (Kx hmL)]; exact hm4
  have ef:∀ x8:Option D,mFz (mV 7) ⟨[some (.r n),some (.d (.int j)),some (.d (.int mo)),some (.d (.int x)),some (.d (.int y)),some (.r m),some (.d (c.S p)),some (.r s1.length),x8],s4⟩=some (.d (Rw c (tell (K j) "up" ++ upC (K j) mo (upN q p))),s4.set s1.length (.fz (Rw c (tell (K j) "up" ++ upC (K j) mo (upN q p))))):=λ x8=>by
   unfold mFz;show IM (some (D.r s1.length,s4)) _=_;rw [Ix];dsimp only;rw [L4];dsimp only;rw [zm]; rfl
  have H5:=H4.setX (x:=.fz (Rw c (tell (K j) "up" ++ upC (K j) mo (upN q p)))) hnL;have S5:Stp s1 (s4.set s1.length (.fz (Rw c (tell (K j) "up" ++ upC (K j) mo (upN q p))))) (Own n kd kvs1) (Own n kd kvs1):=xG S4 (IF _);have el:=zA ok hm5 (p:=p) (by omega) (by omega);generalize s4.set s1.length (.fz (Rw c (tell (K j) "up" ++ upC (K j) mo (upN q p))))=s5 at *;have H6:=H5.put (h':={ oZ (K j) mo (upN q p) with trail:=p }) hj ⟨lp,λ q' e=>by
   have:(oZ (K j) mo (upN q p)).pr=none:=by
    cases upN q p with
    | nil=>rfl
    | cons k r=>rfl
   have e':(oZ (K j) mo (upN q p)).pr=some q':=e;rw [this] at e'; cases e'⟩
  rw [zE] at H6;refine ⟨s5.set m (.obj 0 (hf c { oZ (K j) mo (upN q p) with trail:=p })),kvs1,?_,?_,st.trans (S5.trans (rf hown)),hl1⟩
  ·unfold upR;rw [hpr];dsimp only;refine dB rfl (show jP az aL av cV bQ aZ ⟨[some (.r n),some (.d (.int j)),some (.d (.int mo)),some (.d (.int x)),some (.d (.int y)),none,none,none,none],s⟩=_ from ?_);refine ah (aS hs5) (ah (rO (s:=s1) (dH (cA (ai fp rfl rfl)))) ?_);refine ah (w1:=⟨[some (.r n),some (.d (.int j)),some (.d (.int mo)),some (.d (.int x)),some (.d (.int y)),some (.r m),some (.d (c.S p)),none,none],s1⟩) (aS (ar (aR (ae (kr rfl H1.ob rfl) (ae rfl (ae rfl rfl))) hp))) ?_;refine ah (w1:=⟨[some (.r n),some (.d (.int j)),some (.d (.int mo)),some (.d (.int x)),some (.d (.int y)),some (.r m),some (.d (c.S p)),some (.r s1.length),none],s1++[Cell.lst ((tell (K j) "up").map λ r=>D.d (rD c r))]⟩) (aS (b8 (n:=m) rfl hm rfl (aD (s1:=s1) (ar rfl) bD) (CV hm "up"))) ?_;refine ah (kC (s:=s3) (xs:=(upN q p).map c.s) ?_ eg) (dC ?_)
   ·unfold iM;rw [b8 (n:=m) (d:=.d (c.S (upN q p))) (s2:=s3) rfl hm2 rfl (aD (ar rfl) bD) elg];rfl
   ·exact sG (ef x8) (b8 (n:=m) rfl hm5 rfl (aD (s1:=s5) (ar rfl) bD) el) rfl rfl (Ak (by rw [IA]; have:=ny (K j) "up"; omega) (by have:=nJ (h:=oZ (K j) mo (upN q p)) lt14 lp; omega))
  ·unfold upH;rw [hpr];exact H6
end
theorem rP {fn:DFn} {fs:MFs} {w:Wd} {ds:List D} {s1:Sto} {r:Option (D×Sto)} (h1:fs w=some (ds,s1)) (h2:fn ds s1=r):qw fn fs w=r:=by
 unfold qw;rw [h1]; exact h2
theorem BR {d:Iw} (h:Jo d=true):pEq d d=some (.bool true):=by
 unfold pEq;rw [if_pos ⟨h,h⟩,SeqAt.eqv_refl d (SeqAt.canLay_of_shaped h)]
noncomputable def Dr.sc (c:Dr):Sc:=⟨stF c.ps,c.nm,λ i=>c.L (i - 1),λ i=>c.T (i - 1),λ i=>c.W (i - 1),λ i=>c.H (i - 1),λ i=>c.mr (i - 1)⟩
theorem Dr.sc_d (c:Dr):c.sc.d=c.d:=by
 unfold Sc.d Dr.d Dr.sc stF;dsimp only;rw [JE];rfl
theorem EB (c:Sc) (s0:Sto):cC [.r s0.length,.d c.d] (s0++[.obj 1 []])=some (.d .none,s0++[.obj 1 (nf c (s0.length+1)),.dct []]):=by
 have ge:(s0++[Cell.obj 1 []])[s0.length]?=some (.obj 1 []):=by rw [IJ (IF _),Jq]; rfl
 have ge2:(s0++[Cell.obj 1 [("scene", .d c.d)],.dct []])[s0.length]?=some (.obj 1 [("scene", .d c.d)]):=by rw [IJ (IF _),Jq]; rfl
 show cZ 2 2 fC [.r s0.length,.d c.d] (s0++[.obj 1 []])=_;refine u4 (w1:=⟨[some (.r s0.length),some (.d c.d)],s0++[.obj 1 (nf c (s0.length+1)),.dct []]⟩) rfl ?_;show fC ⟨[some (.r s0.length),some (.d c.d)],s0++[.obj 1 []]⟩=_;refine ah (w1:=⟨[some (.r s0.length),some (.d c.d)],s0++[.obj 1 [("scene", .d c.d)]]⟩) ?_ ?_
 ·rw [fg (d:=.d c.d) (n:=s0.length) (fs:=[]) (ar rfl) rfl ge (by simp)];dsimp only;rw [JQ _ _ (IF _),Jq]; rfl
 ·have ed:u5 ⟨[some (.r s0.length),some (.d c.d)],s0++[.obj 1 [("scene", .d c.d)]]⟩=some (.r (s0.length+1),s0++[.obj 1 [("scene", .d c.d)],.dct []]):=by
   unfold u5;dsimp only;rw [IA,JJ]; rfl
  rw [fg (d:=.r (s0.length+1)) (n:=s0.length) (fs:=[("scene", .d c.d)]) ed rfl ge2 (by simp)];dsimp only;rw [JQ _ _ (IF _),Jq]; rfl
noncomputable def stR (way:Nat) (h:Hd) (p:List Nat) (mo:Int):List (Str×Nat):=if way=0 then mvR h p else if way=1 then dnR h p else upR h p mo
noncomputable def stH (way:Nat) (h:Hd) (p:List Nat) (mo:Int):Hd:=if way=0 then mvH h p else if way=1 then dnH h p else upH h p mo
section
variable {c:Sc} {s:Sto} {n kd:Nat} {kvs:List (Key×D)} {K:Int->Hd}
theorem HC (ok:c.Ok) (H:HOk c s n kd kvs K) (hl:kvs.length < 1000) {way:Nat} (hw:way < 3) (j:Int) {mo x y:Int} {p:List Nat} (hp:aL [c.d,.int x,.int y]=some (c.S p)) (lp:p.length<=7) :
  Res c s n kd kvs (upK K j (stH way (K j) p mo)) (cn [.r n,.d (.int ((way:Nat):Int)),.d (.int j),.d (.int mo),.d (.int x),.d (.int y)] s) (.d (Rw c (stR way (K j) p mo))):=by
 have h3:way=0\/way=1\/way=2:=by omega
 rcases h3 with rfl | rfl | rfl
 ·obtain ⟨s',kvs',e,a,b,d⟩:=Ir ok H hl j (mo:=.int mo) hp lp;refine ⟨s',kvs',?_,a,b,d⟩;refine dB rfl (show g6 cB bP dO ⟨[some (.r n),some (.d (.int ((0:Nat):Int))),some (.d (.int j)),some (.d (.int mo)),some (.d (.int x)),some (.d (.int y))],s⟩=_ from ?_);exact rN (qR (s:=s) (dH (cA (ai rfl rfl (p7 _ _)))) (dC (b8 (n:=n) rfl H.ob rfl (aD (s1:=s) (ar rfl) (aD (s1:=s) (ar rfl) (aD (s1:=s) (ar rfl) (aD (s1:=s) (ar rfl) bD)))) e)))
 ·obtain ⟨s',kvs',e,a,b,d⟩:=Iu ok H hl j (mo:=.int mo) hp lp;refine ⟨s',kvs',?_,a,b,d⟩;refine dB rfl (show g6 cB bP dO ⟨[some (.r n),some (.d (.int ((1:Nat):Int))),some (.d (.int j)),some (.d (.int mo)),some (.d (.int x)),some (.d (.int y))],s⟩=_ from ?_);refine ah (rO (s:=s) (dH (cA (ai rfl rfl (p7 _ _))))) ?_;exact rN (qR (s:=s) (dH (cA (ai rfl rfl (p7 _ _)))) (dC (b8 (n:=n) rfl H.ob rfl (aD (s1:=s) (ar rfl) (aD (s1:=s) (ar rfl) (aD (s1:=s) (ar rfl) (aD (s1:=s) (ar rfl) bD)))) e)))
 ·obtain ⟨s',kvs',e,a,b,d⟩:=Iq ok H hl j (mo:=mo) hp lp;refine ⟨s',kvs',?_,a,b,d⟩;refine dB rfl (show g6 cB bP dO ⟨[some (.r n),some (.d (.int ((2:Nat):Int))),some (.d (.int j)),some (.d (.int mo)),some (.d (.int x)),some (.d (.int y))],s⟩=_ from ?_);refine ah (rO (s:=s) (dH (cA (ai rfl rfl (p7 _ _))))) (ah (rO (s:=s) (dH (cA (ai rfl rfl (p7 _ _))))) ?_);exact dC (b8 (n:=n) rfl H.ob rfl (aD (s1:=s) (ar rfl) (aD (s1:=s) (ar rfl) (aD (s1:=s) (ar rfl) (aD (s1:=s) (ar rfl) bD)))) e)
end
structure Tn (c:Sc) (ps:List Nat):Prop where
 ok:c.Ok
 st:c.st=stF ps
 ps:xu ps
theorem Dr.tr {d:Dr} (hd:d.Ok) (hlen:d.ps.length<=7):d.sc.Ok/\xu d.ps:=⟨⟨hd.inj,hd.top,hd.ok,λ a=>hd.okm _,by
  show (stF d.ps).length<=12;unfold stF;rw [Iy,JT]; omega⟩,⟨hlen,hd.par⟩⟩
theorem qo {c:Sc} {ps:List Nat} (tn:Tn c ps):Tr c ps (In ps) (yU ps):=⟨tn.ok,λ q h=>h,λ q h=>by rw [tn.st]; exact wO h.1 h.2,λ q h=>by rw [tn.st]; exact DB tn.ps h.1 h.2,λ q h x hx=>P_in' tn.ps q h hx,by rw [tn.st]; exact FA tn.ps,λ q h=>Cd tn.ps h,FT tn.ps,tn.ps⟩
end K26
namespace K26.HL
open PySem L2 L2.PU
section
variable {w:Wd} {s s1 s2:Sto} {n k:Nat} {ds:List D} {d:D}
theorem uo {o:MF} {nm:Str} {fs:List (Str×D)} (h1:o w=some (.r n,s)) (h2:s[n]?=some (.obj k fs)) (h3:fs.lookup nm=some d):qS o nm w=some (d,s):=by
 unfold qS;rw [h1,Ix];dsimp only;rw [h2];dsimp only;rw [h3]; rfl
theorem yd {o g:MF} {ds0:List D} (h1:o w=some (.r n,s)) (h2:s[n]?=some (.lst ds0)) (h3:g ⟨w.η,s⟩=some (d,s1)) (h4:s1[n]?=some (.lst ds)) (hl:ds.length<=3000000):wg o g w=some (.d .none,s1.set n (.lst (ds++[d]))):=by
 unfold wg;rw [h1,Ix];dsimp only;rw [h2];dsimp only;rw [h3,Ix];dsimp only;rw [h4];dsimp only;rw [if_pos (Nat.lt_of_le_of_lt hl (by show 3000000 < 2 ^ 24; decide))]
theorem yb {fs:MFs} {xs:List Iw} (h1:fs w=some (ds,s)) (h2:pDs s ds=some xs) (hl:xs.length<=3000000):yc fs w=some (.d (.tuple xs),s):=by
 unfold yc;rw [h1,Ix,h2,Ix,if_pos (big hl)]
theorem mN0:mN (λ η=>(aN η).bind gL) w=some (.r w.s.length,w.s++[.lst []]):=rfl
theorem DV {o g:MF} {x:Iw} {ky:Key} {kvs:List (Key×D)} (h1:o w=some (.r n,s)) (h2:g ⟨w.η,s⟩=some (.d x,s1)) (h3:u8 x=some ky) (h4:s1[n]?=some (.dct kvs)) (h5:bE kvs ky=some d):DW o g w=some (d,s1):=by
 unfold DW;rw [h1,Ix];dsimp only;rw [h2,Ix];dsimp only;rw [h3,Ix,h4];dsimp only;rw [h5,Ix]
theorem DT {neg:Bool} {o g:MF} {x:Iw} {ky:Key} {kvs:List (Key×D)} (h1:g w=some (.d x,s)) (h2:o ⟨w.η,s⟩=some (.r n,s1)) (h3:u8 x=some ky) (h4:s1[n]?=some (.dct kvs)):zb neg g o w=some (if neg then !(bE kvs ky).isSome else (bE kvs ky).isSome,s1):=by
 unfold zb;rw [h1,Ix];dsimp only;rw [h2,Ix];dsimp only;rw [h3,Ix,h4]
theorem B4 {o g e:MF} {x:Iw} {ky:Key} {kvs:List (Key×D)} {s0:Sto} (h0:e w=some (d,s0)) (h1:o ⟨w.η,s0⟩=some (.r n,s)) (h2:g ⟨w.η,s⟩=some (.d x,s1)) (h3:u8 x=some ky) (h4:s1[n]?=some (.dct kvs)) (hl:kvs.length<=3000000):z9 o g e w=some (.nx ⟨w.η,s1.set n (.dct (wf kvs ky d))⟩):=by
 unfold z9;rw [h0,Ix];dsimp only;rw [h1,Ix];dsimp only;rw [h2,Ix];dsimp only;rw [h3,Ix,h4];dsimp only;rw [if_pos (Nat.lt_of_le_of_lt hl (by show 3000000 < 2 ^ 24; decide))]
theorem B7 {nm:Str} {o e:MF} {i j:Int} {fs fs2:List (Str×D)} (h1:o w=some (.r n,s)) (h2:s[n]?=some (.obj k fs)) (h3:fs.lookup nm=some (.d (.int i))) (h4:e ⟨w.η,s⟩=some (.d (.int j),s1)) (h5:s1[n]?=some (.obj k fs2)) (hl:fs2.length < 999):Aa k nm o e w=some (.nx ⟨w.η,s1.set n (.obj k (sq nm (.d (.int (i+j))) fs2))⟩):=by
 unfold Aa;rw [h1,Ix];dsimp only;rw [h2];dsimp only;rw [if_pos rfl,h3];dsimp only;rw [h4,Ix];dsimp only;rw [h5];dsimp only;rw [if_pos ⟨rfl,hl⟩]
theorem zc {f:MF} {xs:List Iw} (h1:f w=some (.r n,s)) (h2:s[n]?=some (.lst ds)) (h3:ua ds=some xs):mFz f w=some (.d (.list xs),s.set n (.fz (.list xs))):=by
 unfold mFz;rw [h1,Ix];dsimp only;rw [h2];dsimp only;rw [h3,Ix]
theorem Bi {f g:MTF} {r:Option (Bool×Sto)} (h1:f w=some (true,s1)) (h2:g ⟨w.η,s1⟩=r):xE f g w=r:=by
 unfold xE;rw [h1]; exact h2
theorem G7 {f:MF} {xs:List Iw} (h:f w=some (.d (.list xs),s)):iM f w=some (xs,s):=by
 unfold iM;rw [h]; rfl
end
theorem gy {s:Sto} {i:Nat} {x:Cell} (h:s[i]?=some x):i < s.length:=(ID.mp h).1
theorem sj {s:Sto} {i:Nat} {x y:Cell} (h:s[i]?=some y):(s.set i x)[i]?=some x:=IH (gy h)
theorem xi {ι:Type} (f:ι->Iw):∀ l:List ι,ua (l.map λ x=>D.d (f x))=some (l.map f)
 | []=>rfl
 | x::r=>by
  rw [IN,IN];unfold ua;rw [xi f r]; rfl
inductive De where
 | stop
 | now
 | keep
deriving DecidableEq
noncomputable def deS:De->Str
 | .stop => "stop"
 | .now => "stopnow"
 | .keep => "keep"
noncomputable def deD (x:De):Iw:=.tuple [.str (deS x)]
noncomputable def dsD (A:List De):Iw:=.tuple (A.map deD)
structure He where
 i:Nat
 q:Nat
 w:Fin 7
 d:Bool
 a:List De
deriving DecidableEq
noncomputable def wd (b:Fin 7):Str:=["enter", "leave", "move", "down", "up", "click", "double"].getD b.val ""
theorem xC:∀ b:Fin 7,Jl (wd b)=true:=by decide +kernel
theorem C3:∀ a b:Fin 7,wd a=wd b->a=b:=by decide +kernel
theorem yJ {a b:Fin 7} (h:wd a=wd b):a=b:=C3 a b h
noncomputable def mt (q:Nat) (w:Fin 7) (d:Bool) (h:He):Bool:=decide (h.q=q)&&(decide (h.w=w)&&decide (h.d=d))
section
variable (c:Sc)
noncomputable def heD (h:He):Iw:=.tuple [c.s h.q,.str (wd h.w),.bool h.d,dsD h.a,.bool false]
noncomputable def kvs (H:List He):List (Key×D):=H.map λ h=>(Sum.inl (h.i:Int),D.d (heD c h))
noncomputable def rwD (h:He):Iw:=.tuple [.int h.i,c.s h.q,.str (wd h.w),.bool h.d]
end
noncomputable def Un (H:List He):Prop:=∀ x∈H,∀ y∈H,x.i=y.i->x=y
section
variable {c:Sc}
theorem ye {H:List He} (u:Un H) {h:He} (m:h∈H):bE (kvs c H) (.inl (h.i:Int))=some (.d (heD c h)):=by
 unfold bE kvs;rw [List.find?_map];have e:H.find? ((λ kv:Key×D=>decide (kv.1=Sum.inl (h.i:Int)))∘λ h=>(Sum.inl (h.i:Int),D.d (heD c h)))=some h:=by
  rw [List.find?_eq_some_iff_append];obtain ⟨a,b,e⟩:=List.append_of_mem m;have key:∃ a' b',H=a'++h::b'/\∀ x∈a',x≠h:=by
   clear e a b u
   induction H with
   | nil=>cases m
   | cons x r ih =>
    by_cases e:x=h
    ·exact ⟨[],r,by rw [e]; rfl,λ _ hx=>by cases hx⟩
    ·obtain ⟨a',b',e1,e2⟩:=ih (by
      rcases IY.mp m with z | z
      ·exact absurd z.symm e
      ·exact z)
     refine ⟨x::a',b',by rw [e1]; rfl,λ y hy=>?_⟩;rcases IY.mp hy with z | z
     ·rw [z]; exact e
     ·exact e2 y z
  obtain ⟨a',b',e1,e2⟩:=key;refine ⟨by simp,a',b',e1,λ x hx=>?_⟩
  have:x.i≠h.i:=λ z=>e2 x hx (u x (by rw [e1]; exact JL _ hx) h m z)
  simp
  intro z
  have:=Int.ofNat.inj z
  omega
 rw [e]; rfl
theorem Dp {H:List He} {i:Nat} (h:∀ x∈H,x.i≠i) (d:D):wf (kvs c H) (.inl (i:Int)) d=kvs c H++[(.inl (i:Int),d)]:=by
 unfold wf;rw [if_neg];unfold kvs;rw [List.any_map];intro z;rw [JZ] at z;obtain ⟨x,hx,z⟩:=z;have z2:=of_decide_eq_true z;exact h x hx (Int.ofNat.inj (Sum.inl.inj z2))
theorem yt:∀ H:List He,xh (kvs c H)=some (H.map λ h=>(Sum.inl (h.i:Int),heD c h))
 | []=>rfl
 | x::r=>by
  unfold kvs;rw [IN,IN];unfold xh;rw [show xh (r.map _)=_ from yt r]; rfl
theorem Fu (h:c.Ok) (a b:Nat) (w w':Fin 7) (d d':Bool):pEq (.tuple [c.s a,.str (wd w),.bool d]) (.tuple [c.s b,.str (wd w'),.bool d'])=some (.bool (decide (a=b)&&(decide (w=w')&&decide (d=d')))):=by
 have sh:∀ (a:Nat) (w:Fin 7) (d:Bool),Jo (.tuple [c.s a,.str (wd w),.bool d])=true:=λ a w d=>by
  simp [Jo,Jw,JA,PyData.depth,JD,Sc.s,xC,h.ok]
 unfold pEq;rw [if_pos ⟨sh a w d,sh b w' d'⟩];have e1:Jh (c.s a) (c.s b)=decide (a=b):=EZ h a b;have e2:Jh (.str (wd w)) (.str (wd w'))=decide (w=w'):=by
  rw [show Jh (.str (wd w)) (.str (wd w'))=decide (wd w=wd w') by simp [Jh,str_dec]];exact decide_eq_decide.mpr ⟨λ e=>yJ e,λ e=>by rw [e]⟩
 have e3:Jh (.bool d) (.bool d')=decide (d=d'):=by cases d <;> cases d' <;> rfl
 show some (PyData.bool (PyData.eqvAll _ _))=_;unfold PyData.eqvAll;rw [e1];unfold PyData.eqvAll;rw [e2];unfold PyData.eqvAll;rw [e3];unfold PyData.eqvAll;rw [Bool.and_true]
end
noncomputable def hf (c:Sc) (b m:Nat):List (Str×D):=[("scene", .d c.d),("hearers", .r b),("made", .d (.int (m:Int)))]
structure Hl (s:Sto) (a b:Nat) (c:Sc) (H:List He) (m:Nat):Prop where
 ob:s[a]?=some (.obj 3 (hf c b m))
 dc:s[b]?=some (.dct (kvs c H))
section
variable {s s':Sto} {a b m:Nat} {c:Sc} {H:List He}
theorem Hl.ne (P:Hl s a b c H m):a≠b:=λ e=>by have:=P.ob; rw [e,P.dc] at this; cases this
theorem oi:(hf c b m).lookup ("hearers" : Str)=some (D.r b):=by rfl
noncomputable def obH (s:Sto) (c:Sc) (b m:Nat):Str->Option Iw:=λ f=>((hf c b m).lookup f).bind (pD s)
theorem vwH {η:MEn} (hc:s[a]?=some (.obj 3 (hf c b m))):vw ⟨some (.r a)::η,s⟩=.ob (obH s c b m)::vw ⟨η,s⟩:=by
 unfold vw;rw [IN,wB hc]; rfl
theorem Cp (l:En):dQ 0 "scene" (.ob (obH s c b m)::l)=some c.d:=by rfl
theorem Gv (P:Hl s a b c H m) (hl:H.length<=1000) (hi:∀ x∈H,x.i≠m) {q p:Nat} (hb:ay [c.d,c.s q]=some (c.box (q,p))) (w:Fin 7) (d:Bool) (A:List De) :
  ∃ s',ee [.r a,.d (c.s q),.d (.str (wd w)),.d (.bool d),.d (dsD A),.d (.bool false)] s=some (.d (.int (m:Int)),s')/\Hl s' a b c (H++[⟨m,q,w,d,A⟩]) (m+1)/\∀ i,i≠a->i≠b->s'[i]?=s[i]?:=by
 have s1:∃ s1,s1=s.set b (.dct (kvs c (H++[⟨m,q,w,d,A⟩]))):=⟨_,rfl⟩;obtain ⟨s1,e1⟩:=s1;have o1:s1[a]?=some (.obj 3 (hf c b m)):=by rw [e1,Iz P.ne.symm]; exact P.ob
 refine ⟨s1.set a (.obj 3 (hf c b (m+1))),?_,⟨sj o1,by rw [Iz P.ne,e1]; exact sj P.dc⟩,λ i h1 h2=>by rw [Iz (Ne.symm h1),e1,Iz (Ne.symm h2)]⟩;refine dB rfl (show kW ay ⟨[some (.r a),some (.d (c.s q)),some (.d (.str (wd w))),some (.d (.bool d)),some (.d (dsD A)),some (.d (.bool false)),none],s⟩=_ from ?_);have k1:km (mP (lA ay (aC (dQ 0 "scene") (aC (eV 1) aN)))) ⟨[some (.r a),some (.d (c.s q)),some (.d (.str (wd w))),some (.d (.bool d)),some (.d (dsD A)),some (.d (.bool false)),none],s⟩=some (.nx ⟨[some (.r a),some (.d (c.s q)),some (.d (.str (wd w))),some (.d (.bool d)),some (.d (dsD A)),some (.d (.bool false)),none],s⟩):=by
  refine lK (ar (x:=c.box (q,p)) ?_);rw [vwH P.ob];exact aR (ae (Cp _) (ae rfl rfl)) hb
 have k2:dP 6 (mP (dQ 0 "made")) ⟨[some (.r a),some (.d (c.s q)),some (.d (.str (wd w))),some (.d (.bool d)),some (.d (dsD A)),some (.d (.bool false)),none],s⟩=some (.nx ⟨[some (.r a),some (.d (c.s q)),some (.d (.str (wd w))),some (.d (.bool d)),some (.d (dsD A)),some (.d (.bool false)),some (.d (.int (m:Int)))],s⟩):=by
  refine aS (ar ?_);rw [vwH P.ob]; rfl
 refine ah k1 (ah k2 (ah (w1:=⟨[some (.r a),some (.d (c.s q)),some (.d (.str (wd w))),some (.d (.bool d)),some (.d (dsD A)),some (.d (.bool false)),some (.d (.int (m:Int)))],s1⟩) ?_ (ah (w1:=⟨[some (.r a),some (.d (c.s q)),some (.d (.str (wd w))),some (.d (.bool d)),some (.d (dsD A)),some (.d (.bool false)),some (.d (.int (m:Int)))],s1.set a (.obj 3 (hf c b (m+1)))⟩) ?_ (dC (ar rfl)))))
 ·rw [B4 (d:=.d (heD c ⟨m,q,w,d,A⟩)) (kvs:=kvs c H) (ar ?_) (uo rfl P.ob oi) (ar rfl) rfl P.dc (by unfold kvs; rw [Iy]; omega)]
  ·dsimp only;rw [Dp hi,e1];unfold kvs;rw [Js]; rfl
  ·exact aR (ae rfl (ae rfl (ae rfl (ae rfl (ae rfl rfl))))) (dR (by simp))
 ·have k4:=B7 (nm := "made") (o:=mV 0) (e:=mP (eC (.int 1))) (i:=(m:Int)) (j:=1) (w:=⟨[some (.r a),some (.d (c.s q)),some (.d (.str (wd w))),some (.d (.bool d)),some (.d (dsD A)),some (.d (.bool false)),some (.d (.int (m:Int)))],s1⟩) rfl o1 rfl (ar rfl) o1 (by show 3 < 999; decide);exact k4
theorem F8 {f:MF} {w:Wd} {d:Iw} (h:f w=some (.d d,s)):mFz f w=some (.d d,s):=by
 unfold mFz;rw [h]; rfl
theorem A8 (P:Hl s a b c H m) (h:c.Ok) (hl:H.length<=1000) (q:Nat) (w:Fin 7) (d:Bool) :
  cw [.r a,.d (c.s q),.d (.str (wd w)),.d (.bool d)] s=some (.d (.list ((H.filter (mt q w d)).map λ h=>.int (h.i:Int))),s):=by
 refine dB rfl (show jq ⟨[some (.r a),some (.d (c.s q)),some (.d (.str (wd w))),some (.d (.bool d)),none],s⟩=_ from ?_);refine ah (w1:=⟨[some (.r a),some (.d (c.s q)),some (.d (.str (wd w))),some (.d (.bool d)),some (.d (.tuple [c.s q,.str (wd w),.bool d]))],s⟩) (aS (ar (aR (ae rfl (ae rfl (ae rfl rfl))) (dR (by simp))))) (dC ?_);have e1:bj [none,none,some 4] (λ _=>some (oj (H.map λ h=>(Sum.inl (h.i:Int),heD c h)))) (tgT (aO (tgN 0) (aO (tgN 1) gi))) (bT (l2 pEq (eSl (eV 1) pN (pS (eC (.int 3)))) (eV 2))) (eV 0) (vw ⟨[some (.r a),some (.d (c.s q)),some (.d (.str (wd w))),some (.d (.bool d)),some (.d (.tuple [c.s q,.str (wd w),.bool d]))],s⟩)=some ((H.filter (mt q w d)).map λ h=>.int (h.i:Int)):=by
  have ei:oj (H.map λ h=>(Sum.inl (h.i:Int),heD c h))=H.map λ h=>.tuple [.int (h.i:Int),heD c h]:=by
   unfold oj;rw [JE]; rfl
  rw [ei];refine fH rfl (by rw [Iy]; omega) ?_;refine ji (t:=tgT (aO (tgN 0) (aO (tgN 1) gi))) (p:=bT (l2 pEq (eSl (eV 1) pN (pS (eC (.int 3)))) (eV 2))) (f:=eV 0) (η:=[.un,.un,.val (.tuple [c.s q,.str (wd w),.bool d])]) (λ h=>.tuple [.int (h.i:Int),heD c h]) (mt q w d) (λ h=>.int (h.i:Int)) H λ x _=>⟨[.val (.int (x.i:Int)),.val (heD c x),.val (.tuple [c.s q,.str (wd w),.bool d])],rfl,?_,λ _=>rfl⟩;exact cA (ai (vq (l:=none) (h:=some ((3:Nat):Int)) (d:=.tuple [c.s x.q,.str (wd x.w),.bool x.d]) rfl rfl (xT rfl) (by unfold heD pSl; dsimp only; rw [Gd]; rfl)) rfl (Fu h x.q q x.w w x.d d))
 refine F8 ?_;unfold DS;dsimp only [List.getElem?_cons_zero];rw [P.ob];dsimp only;rw [oi];dsimp only;rw [P.dc];dsimp only;rw [yt,Ix,e1,Ix,if_pos];rw [List.all_eq_true];intro x hx;obtain ⟨y,_,rfl⟩:=JP.mp hx;rfl
structure Fl where
 kp:Bool
 lt:Bool
 en:Bool
noncomputable def Fl.up (f:Fl):De->Fl
 | .keep=>⟨true,f.lt,f.en⟩
 | .stop=>⟨f.kp,true,f.en⟩
 | .now=>⟨f.kp,f.lt,true⟩
noncomputable def Fl.ups (f:Fl) (A:List De):Fl:=A.foldl Fl.up f
noncomputable def cf (t:Nat) (w:Fin 7) (f:Fl):List (Str×D):=[("word", .d (.str (wd w))),("depth", .d (.int 0)),("told", .r t),("is_kept", .d (.bool f.kp)),("is_last_turn", .d (.bool f.lt)),("is_ended", .d (.bool f.en))]
noncomputable def tlD (c:Sc) (T:List He):List D:=T.map λ x=>D.d (rwD c x)
structure Cr (z s:Sto) (a b k t:Nat) (c:Sc) (H:List He) (m:Nat) (w:Fin 7) (T:List He) (f:Fl):Prop where
 hl:Hl s a b c H m
 co:s[k]?=some (.obj 2 (cf t w f))
 tl:s[t]?=some (.lst (tlD c T))
 kp:∀ i,i≠k->i≠t->s[i]?=z[i]?
variable {z:Sto} {k t:Nat} {w:Fin 7} {T:List He} {f:Fl}
theorem Cr.kt (P:Cr z s a b k t c H m w T f):k≠t:=λ e=>by have:=P.co; rw [e,P.tl] at this; cases this
theorem Cr.kb (P:Cr z s a b k t c H m w T f):k≠b:=λ e=>by have:=P.co; rw [e,P.hl.dc] at this; cases this
theorem Cr.ka (P:Cr z s a b k t c H m w T f):k≠a:=λ e=>by have:=P.co; rw [e,P.hl.ob] at this; cases this
theorem Cr.at' (P:Cr z s a b k t c H m w T f):a≠t:=λ e=>by have:=P.hl.ob; rw [e,P.tl] at this; cases this
theorem Cr.bt (P:Cr z s a b k t c H m w T f):b≠t:=λ e=>by have:=P.hl.dc; rw [e,P.tl] at this; cases this
theorem Cr.more (P:Cr z s a b k t c H m w T f) (x:He):Cr z (s.set t (.lst (tlD c (T++[x])))) a b k t c H m w (T++[x]) f:=⟨⟨by rw [Iz P.at'.symm]; exact P.hl.ob,by rw [Iz P.bt.symm]; exact P.hl.dc⟩,by rw [Iz P.kt.symm]; exact P.co,sj P.tl,λ i h1 h2=>by rw [Iz (Ne.symm h2)]; exact P.kp i h1 h2⟩
theorem Cr.flag (P:Cr z s a b k t c H m w T f) (f':Fl):Cr z (s.set k (.obj 2 (cf t w f'))) a b k t c H m w T f':=⟨⟨by rw [Iz P.ka]; exact P.hl.ob,by rw [Iz P.kb]; exact P.hl.dc⟩,sj P.co,by rw [Iz P.kt]; exact P.tl,λ i h1 h2=>by rw [Iz (Ne.symm h1)]; exact P.kp i h1 h2⟩
theorem DZ:(cf t w f).lookup ("told" : Str)=some (D.r t):=by rfl
theorem Cy (x:De):Jl (deS x)=true:=by cases x <;> decide +kernel
theorem Ek (x y:De):decide (deS x=deS y)=decide (x=y):=by cases x <;> cases y <;> decide +kernel
theorem Hm (x y:De):pEq (.str (deS x)) (.str (deS y))=some (.bool (decide (x=y))):=by rw [um (Cy x) (Cy y),Ek]
theorem Gw (P:Cr z s a b k t c H m w T f) (x:De):cx [.r a,.d (deD x),.r k] s=some (.d .none,s.set k (.obj 2 (cf t w (f.up x)))):=by
 refine u4 (w1:=⟨[some (.r a),some (.d (deD x)),some (.r k)],s.set k (.obj 2 (cf t w (f.up x)))⟩) rfl ?_;show jr cW aU c8 ⟨[some (.r a),some (.d (deD x)),some (.r k)],s⟩=_;have tst:∀ y:De,tPv (bT (l2 pEq (l2 pIx (eV 1) (eC (.int 0))) (eC (.str (deS y))))) ⟨[some (.r a),some (.d (deD x)),some (.r k)],s⟩=some (decide (x=y),s):=λ y=>dH (cA (ai (ai rfl rfl rfl) rfl (Hm x y)));have t1:=tst .keep;have t2:=tst .stop;have t3:=tst .now;cases x with
 | keep=>exact qR t1 (fg (ar rfl) rfl P.co (by show 6 < 999; decide))
 | stop=>exact DU t1 (qR t2 (fg (ar rfl) rfl P.co (by show 6 < 999; decide)))
 | now=>exact DU t1 (DU t2 (qR t3 (fg (ar rfl) rfl P.co (by show 6 < 999; decide))))
theorem EA (P:Cr z s a b k t c H m w T f) (u:Un H) {h:He} (hm:h∈H) (hT:T.length<=1000) :
  ∃ s',cD [.r a,.d (.int (h.i:Int)),.r k] s=some (.d .none,s')/\Cr z s' a b k t c H m w (T++[h]) (f.ups h.a):=by
 have P1:=P.more h;have s1:∃ s1,s1=s.set t (.lst (tlD c (T++[h]))):=⟨_,rfl⟩;obtain ⟨s1,e1⟩:=s1;rw [<- e1] at P1;obtain ⟨w',e4,s',x4,rfl,e5⟩:=lJ (ks:=[4]) (t:=tgN 4) (body:=km (bG 3 "do_deed" cx (mV 0) (maC (mP (eV 4)) (maC (mV 2) maN)))) deD (λ done w1=>∃ s2 x4,w1=⟨[some (.r a),some (.d (.int (h.i:Int))),some (.r k),some (.d (heD c h)),x4],s2⟩/\Cr z s2 a b k t c H m w (T++[h]) (f.ups done)) h.a (w:=⟨[some (.r a),some (.d (.int (h.i:Int))),some (.r k),some (.d (heD c h)),none],s1⟩)
  (λ done x rest w1 e ⟨s2,x4,ew,C⟩=>by
   subst ew;have C2:=C.flag ((f.ups done).up x);refine ⟨⟨[some (.r a),some (.d (.int (h.i:Int))),some (.r k),some (.d (heD c h)),some (.d (deD x))],s2⟩,⟨[some (.r a),some (.d (.int (h.i:Int))),some (.r k),some (.d (heD c h)),some (.d (deD x))],s2.set k (.obj 2 (cf t w ((f.ups done).up x)))⟩,rfl,?_,_,_,rfl,?_⟩
   ·exact lK (b8 rfl C.hl.ob rfl (aD (ar rfl) (aD rfl bD)) (Gw C x))
   ·rw [show f.ups (done++[x])=(f.ups done).up x by unfold Fl.ups; rw [Kp]; rfl];exact C2)
  ⟨s1,none,rfl,P1⟩
 refine ⟨s',?_,e5⟩;refine u4 (w1:=⟨[some (.r a),some (.d (.int (h.i:Int))),some (.r k),some (.d (heD c h)),x4],s'⟩) rfl ?_;show ko fL cx ⟨[some (.r a),some (.d (.int (h.i:Int))),some (.r k),none,none],s⟩=_;have k1:=DV (o:=qS (mV 0) "hearers") (g:=mP (eV 1)) (w:=⟨[some (.r a),some (.d (.int (h.i:Int))),some (.r k),none,none],s⟩) (uo rfl P.hl.ob oi) (ar rfl) rfl P.hl.dc (ye u hm);refine ah (aS k1) (ah (w1:=⟨[some (.r a),some (.d (.int (h.i:Int))),some (.r k),some (.d (heD c h)),none],s1⟩) ?_ (ah (rO (dH (cA (ai rfl rfl rfl)))) (kC (pK (jK (ai rfl rfl rfl) rfl)) e4)));rw [e1,show tlD c (T++[h])=tlD c T++[D.d (rwD c h)] by unfold tlD; rw [Js]; rfl];refine lK (yd (uo rfl P.co DZ) P.tl (ar ?_) P.tl (by rw [tlD,Iy]; omega));exact aR (ae rfl (ae (ai rfl rfl rfl) (ae (ai rfl rfl rfl) (ae (ai rfl rfl rfl) rfl)))) (dR (by simp))
end
section
variable {c:Sc}
theorem HB (h:c.Ok) {q:Nat}:aU [c.d,c.s q]=some (.bool (c.st.any λ x=>decide (x.1=q))):=by
 have e:bj [none,some 1] (lI qj (eV 0)) (tgN 0) cy (l2 pEq (l2 pIx (eV 0) (eC (.int 0))) (eV 1)) [.val c.d,.val (c.s q)]=some ((c.st.map λ x=>decide (x.1=q)).map PyData.bool):=by
  refine fH (ds:=c.st.map c.box) (jK rfl rfl) (by rw [Iy]; have:=h.len; omega) ?_;rw [JE];exact i9 (η:=[.un,.val (c.s q)]) c.box (λ x=>.bool (decide (x.1=q))) c.st λ x hx=>⟨[.val (c.box x),.val (c.s q)],rfl,ai (ai rfl rfl rfl) rfl (h.eqs x.1 q)⟩
 have e2:=aR (ae (g:=aN) (eE e) rfl) (zY _);rw [List.any_map] at e2;exact kT rfl (show on [.val c.d,.val (c.s q)]=_ from ng e2)
end
theorem m4 {w:Wd} {i k kk:Nat} {fs:List (Str×D)} {f:Str} {x:Iw} (h1:w.η[i]?=some (some (.r k))) (h2:w.s[k]?=some (.obj kk fs)) (h3:fs.lookup f=some (.d x)):dQ i f (vw w)=some x:=by
 unfold dQ vw;rw [IP,h1];show (match some (vwS (pD w.s) w.s (some (.r k))) with | some (.ob fs)=>fs f | _=>none)=_;rw [wB h2];show (fs.lookup f).bind _=_;rw [h3]; rfl
noncomputable abbrev Ss:=List He×Fl
noncomputable def stp (st:List He×Fl) (h:He):List He×Fl:=if st.2.en=true then st else (st.1++[h],st.2.ups h.a)
theorem wF:∀ (L:List He) (st:List He×Fl),(L.foldl stp st).1.length<=st.1.length+L.length
 | [],st=>IF _
 | x::r,st=>by
  have ih:=wF r (stp st x)
  have:(stp st x).1.length<=st.1.length+1:=by
   unfold stp
   split
   ·omega
   ·simp
  rw [J9,IX];omega
section
variable {z s s':Sto} {a b m k t:Nat} {c:Sc} {H T:List He} {w:Fin 7} {f:Fl}
theorem Gu (P:Cr z s a b k t c H m w T f) (h:c.Ok) (u:Un H) (hl:T.length+H.length<=1000) (q:Nat) (d:Bool) :
  ∃ s',bN [.r a,.d (c.s q),.d (.bool d),.r k] s=some (.d .none,s')/\Cr z s' a b k t c H m w ((H.filter (mt q w d)).foldl stp (T,f)).1 ((H.filter (mt q w d)).foldl stp (T,f)).2:=by
 have lL:(H.filter (mt q w d)).length<=H.length:=JO _ _;obtain ⟨w',e1,s',x4,rfl,e3⟩:=lJ (ks:=[4]) (t:=tgN 4) (body:=mIf (xE (zb false (mP (eV 4)) (qS (mV 0) "hearers")) (tPv (v0 (bT (dQ 3 "is_ended"))))) (km (bG 3 "rouse" cD (mV 0) (maC (mP (eV 4)) (maC (mV 3) maN)))) mNx)
  (λ h:He=>Jm (h.i:Int)) (λ done w1=>∃ s1 x4,w1=⟨[some (.r a),some (.d (c.s q)),some (.d (.bool d)),some (.r k),x4],s1⟩/\Cr z s1 a b k t c H m w (done.foldl stp (T,f)).1 (done.foldl stp (T,f)).2) (H.filter (mt q w d)) (w:=⟨[some (.r a),some (.d (c.s q)),some (.d (.bool d)),some (.r k),none],s⟩)
  (λ done x rest w1 e ⟨s1,x4,ew,C⟩=>by
   subst ew;have hx:x∈H:=(JS.mp (show x∈H.filter (mt q w d) by rw [e]; simp)).1;have ld:done.length<=H.length:=by
    have:=congrArg List.length e
    rw [IA] at this;omega
   have lf:=wF done (T,f);rw [Kp];generalize done.foldl stp (T,f)=st at C lf;have k1:=DT (neg:=false) (g:=mP (eV 4)) (o:=qS (mV 0) "hearers") (w:=⟨[some (.r a),some (.d (c.s q)),some (.d (.bool d)),some (.r k),some (.d (.int (x.i:Int)))],s1⟩) (ar rfl) (uo rfl C.hl.ob oi) rfl C.hl.dc;rw [ye u hx] at k1;show ∃ w1 w2,_/\_/\∃ s1 x4,_/\Cr z s1 a b k t c H m w (stp st x).1 (stp st x).2;by_cases he:st.2.en=true
   ·refine ⟨⟨[some (.r a),some (.d (c.s q)),some (.d (.bool d)),some (.r k),some (.d (.int (x.i:Int)))],s1⟩,⟨[some (.r a),some (.d (c.s q)),some (.d (.bool d)),some (.r k),some (.d (.int (x.i:Int)))],s1⟩,rfl,?_,s1,_,rfl,?_⟩
    ·refine rO (Bi k1 (dH (ux (b:=true) (cA (m4 rfl C.co ?_)))));rw [<- he]; rfl
    ·rw [show stp st x=st from if_pos he]; exact C
   ·have he':st.2.en=false:=by simpa using he
    obtain ⟨s2,r1,r2⟩:=EA C u hx (by show st.1.length<=1000; have:(T,f).1.length=T.length:=rfl; omega);refine ⟨⟨[some (.r a),some (.d (c.s q)),some (.d (.bool d)),some (.r k),some (.d (.int (x.i:Int)))],s1⟩,⟨[some (.r a),some (.d (c.s q)),some (.d (.bool d)),some (.r k),some (.d (.int (x.i:Int)))],s2⟩,rfl,?_,s2,_,rfl,?_⟩
    ·refine qR (Bi k1 (dH (ux (b:=false) (cA (m4 rfl C.co ?_))))) ?_
     ·rw [<- he']; rfl
     ·exact lK (b8 rfl C.hl.ob rfl (aD (ar rfl) (aD rfl bD)) r1)
    ·rw [show stp st x=(st.1++[x],st.2.ups x.a) from if_neg he]; exact r2)
  ⟨s,none,rfl,P⟩
 have e4:fE cw cD ⟨[some (.r a),some (.d (c.s q)),some (.d (.bool d)),some (.r k),none],s⟩=_:=kC (G7 (b8 rfl P.hl.ob rfl (aD (ar rfl) (aD (ar (m4 rfl P.co rfl)) (aD (ar rfl) bD))) (A8 P.hl h (by omega) q w d))) e1;refine ⟨s',?_,e3⟩;exact u4 (ds:=[.r a,.d (c.s q),.d (.bool d),.r k]) (a:=4) (b:=5) (g:=fE cw cD) rfl e4
end
noncomputable def dT (x:Nat):Nat×Bool:=(x,true)
noncomputable def dF (x:Nat):Nat×Bool:=(x,false)
noncomputable def trn (l:List Nat):List (Nat×Bool):=l.map dT++l.reverse.map dF
theorem C7 (l:List Nat):(trn l).length=l.length+l.length:=by unfold trn; simp
theorem C6 {l:List Nat} {x:Nat×Bool} (h:x∈trn l):x.1∈l:=by
 unfold trn at h;rcases JF.mp h with z | z
 ·obtain ⟨u,hu,rfl⟩:=JP.mp z; exact hu
 ·obtain ⟨u,hu,rfl⟩:=JP.mp z; exact J6.mp hu
noncomputable def trD (c:Sc) (x:Nat×Bool):Iw:=.tuple [c.s x.1,.bool x.2]
noncomputable def atp (H:List He) (w:Fin 7) (st:List He×Fl) (x:Nat×Bool):List He×Fl:=if st.2.lt=true then st else (H.filter (mt x.1 w x.2)).foldl stp st
theorem An (H:List He) (w:Fin 7):∀ (A:List (Nat×Bool)) (st:List He×Fl),(A.foldl (atp H w) st).1.length<=st.1.length+A.length*H.length
 | [],st=>by simp
 | x::r,st=>by
  have ih:=An H w r (atp H w st x)
  have:(atp H w st x).1.length<=st.1.length+H.length:=by
   unfold atp
   split
   ·omega
   ·exact Jd (wF _ _) (Nat.add_le_add_left (JO _ _) _)
  rw [J9,IX,Nat.succ_mul];omega
section
variable {z s s':Sto} {a b m k t:Nat} {c:Sc} {ps:List Nat} {H:List He} {w:Fin 7} {f:Fl}
noncomputable def runs (H:List He) (w:Fin 7) (l:List Nat) (f:Fl):List He×Fl:=(trn l).foldl (atp H w) ([],f)
theorem EE (P0:Cr z s a b k t c H m w [] f) (tr:Tn c ps) (u:Un H) (hl:H.length<=40) {q:Nat} (hq:In ps q) :
  ∃ s',b5 [.r a,.d (c.s q),.r k] s=some (.d (.bool (runs H w (P ps q) f).2.kp),s')/\Cr z s' a b k t c H m w (runs H w (P ps q) f).1 (runs H w (P ps q) f).2:=by
 have l7:=P_7 (qo tr) hq;have lT:=C7 (P ps q);have ep:aq 13 [c.d,c.s q]=some (c.S (P ps q)):=sW (qo tr) hq;obtain ⟨w',e1,s',x5,x6,rfl,e3⟩:=lJ (ks:=[5,6]) (t:=tgT (aO (tgN 5) (aO (tgN 6) gi))) (body:=mIf (tPv (v4 (bT (lA aU (aC (dQ 0 "scene") (aC (eV 5) aN)))) (v0 (bT (dQ 2 "is_last_turn"))))) (km (bG 3 "give_turn" bN (mV 0) (maC (mP (eV 5)) (maC (mP (eV 6)) (maC (mV 2) maN))))) mNx)
  (trD c) (λ done w1=>∃ s1 x5 x6,w1=⟨[some (.r a),some (.d (c.s q)),some (.r k),some (.d (c.S (P ps q))),some (.d (.list ((trn (P ps q)).map (trD c)))),x5,x6],s1⟩/\Cr z s1 a b k t c H m w (done.foldl (atp H w) ([],f)).1 (done.foldl (atp H w) ([],f)).2) (trn (P ps q)) (w:=⟨[some (.r a),some (.d (c.s q)),some (.r k),some (.d (c.S (P ps q))),some (.d (.list ((trn (P ps q)).map (trD c)))),none,none],s⟩)
  (λ done x rest w1 e ⟨s1,x5,x6,ew,C⟩=>by
   subst ew;have hx:x.1∈P ps q:=C6 (by rw [e]; simp);have ld:done.length<=14:=by
    have:=congrArg List.length e
    rw [IA] at this;omega
   have lt1:=An H w done ([],f);have lt2:done.length*H.length<=14*40:=Nat.mul_le_mul ld hl;rw [Kp];generalize done.foldl (atp H w) ([],f)=st at C lt1;have lt1:st.1.length<=560:=by have:(([],f):List He×Fl).1.length=0:=rfl; omega
   show ∃ w1 w2,_/\_/\∃ s1 x5 x6,_/\Cr z s1 a b k t c H m w (atp H w st x).1 (atp H w st x).2;have hin:=P_in' tr.ps q hq hx;have hh:aU [c.d,c.s x.1]=some (.bool true):=by
    rw [HB tr.ok,tr.st]
    congr 2
    rw [JZ];exact ⟨_,y8 hin.1 hin.2,by simp⟩
   have k1:tPv (v4 (bT (lA aU (aC (dQ 0 "scene") (aC (eV 5) aN)))) (v0 (bT (dQ 2 "is_last_turn")))) ⟨[some (.r a),some (.d (c.s q)),some (.r k),some (.d (c.S (P ps q))),some (.d (.list ((trn (P ps q)).map (trD c)))),some (.d (c.s x.1)),some (.d (.bool x.2))],s1⟩=some (!st.2.lt,s1) :=
    dH (Hu (cA (aR (ae (m4 rfl C.hl.ob rfl) (ae rfl rfl)) hh)) (ux (b:=st.2.lt) (cA (m4 rfl C.co rfl))))
   by_cases he:st.2.lt=true
   ·rw [he] at k1;refine ⟨⟨[some (.r a),some (.d (c.s q)),some (.r k),some (.d (c.S (P ps q))),some (.d (.list ((trn (P ps q)).map (trD c)))),some (.d (c.s x.1)),some (.d (.bool x.2))],s1⟩,⟨[some (.r a),some (.d (c.s q)),some (.r k),some (.d (c.S (P ps q))),some (.d (.list ((trn (P ps q)).map (trD c)))),some (.d (c.s x.1)),some (.d (.bool x.2))],s1⟩,rfl,rO k1,s1,_,_,rfl,?_⟩;rw [show atp H w st x=st from if_pos he]; exact C
   ·have he':st.2.lt=false:=by simpa using he
    rw [he'] at k1;obtain ⟨s2,r1,r2⟩:=Gu C tr.ok u (by omega) x.1 x.2;refine ⟨⟨[some (.r a),some (.d (c.s q)),some (.r k),some (.d (c.S (P ps q))),some (.d (.list ((trn (P ps q)).map (trD c)))),some (.d (c.s x.1)),some (.d (.bool x.2))],s1⟩,⟨[some (.r a),some (.d (c.s q)),some (.r k),some (.d (c.S (P ps q))),some (.d (.list ((trn (P ps q)).map (trD c)))),some (.d (c.s x.1)),some (.d (.bool x.2))],s2⟩,rfl,?_,s2,_,_,rfl,?_⟩
    ·exact qR k1 (lK (b8 rfl C.hl.ob rfl (aD (ar rfl) (aD (ar rfl) (aD rfl bD))) r1))
    ·rw [show atp H w st x=(H.filter (mt x.1 w x.2)).foldl stp st from if_neg he]; exact r2)
  ⟨s,none,none,rfl,P0⟩
 refine ⟨s',dB rfl (show iU (aq 13) aU bN ⟨[some (.r a),some (.d (c.s q)),some (.r k),none,none,none,none],s⟩=_ from ?_),e3⟩;have k1:dP 3 (mP (lA (aq 13) (aC (dQ 0 "scene") (aC (eV 1) aN)))) ⟨[some (.r a),some (.d (c.s q)),some (.r k),none,none,none,none],s⟩=some (.nx ⟨[some (.r a),some (.d (c.s q)),some (.r k),some (.d (c.S (P ps q))),none,none,none],s⟩) :=
  aS (ar (aR (ae (m4 rfl P0.hl.ob rfl) (ae rfl rfl)) ep))
 have k2:dP 4 (mP (l2 aW (oE (bj [none] (lI asL (eV 3)) (tgN 0) cy (lA (λ ds=>if ds.length<=IB then some (.tuple ds) else none) (aC (eV 0) (aC (eC (.bool true)) aN))))) (oE (bj [none] (λ η=>((aC (eV 3) aN) η).bind rvS) (tgN 0) cy (lA (λ ds=>if ds.length<=IB then some (.tuple ds) else none) (aC (eV 0) (aC (eC (.bool false)) aN))))))) ⟨[some (.r a),some (.d (c.s q)),some (.r k),some (.d (c.S (P ps q))),none,none,none],s⟩=some (.nx ⟨[some (.r a),some (.d (c.s q)),some (.r k),some (.d (c.S (P ps q))),some (.d (.list ((trn (P ps q)).map (trD c)))),none,none],s⟩):=by
  have f1:bj [none] (lI asL (eV 3)) (tgN 0) cy (lA (λ ds=>if ds.length<=IB then some (.tuple ds) else none) (aC (eV 0) (aC (eC (.bool true)) aN))) (vw ⟨[some (.r a),some (.d (c.s q)),some (.r k),some (.d (c.S (P ps q))),none,none,none],s⟩)=some (((P ps q).map dT).map (trD c)):=by
   refine fH (ds:=(P ps q).map c.s) (jK rfl rfl) (by rw [Iy]; omega) ?_;rw [JE];exact i9 (η:=[.un]) c.s (trD c∘dT) (P ps q) λ x _=>⟨[.val (c.s x)],rfl,aR (ae rfl (ae rfl rfl)) (dR (by simp))⟩
  have f2:bj [none] (λ η=>((aC (eV 3) aN) η).bind rvS) (tgN 0) cy (lA (λ ds=>if ds.length<=IB then some (.tuple ds) else none) (aC (eV 0) (aC (eC (.bool false)) aN))) (vw ⟨[some (.r a),some (.d (c.s q)),some (.r k),some (.d (c.S (P ps q))),none,none,none],s⟩)=some (((P ps q).reverse.map dF).map (trD c)):=by
   refine fH (ds:=(P ps q).reverse.map c.s) (show rvS [c.S (P ps q)]=_ by rw [Kr]; rfl) (by rw [Iy,Jr]; omega) ?_;rw [JE];exact i9 (η:=[.un]) c.s (trD c∘dF) (P ps q).reverse λ x _=>⟨[.val (c.s x)],rfl,aR (ae rfl (ae rfl rfl)) (dR (by simp))⟩
  refine aS (ar (ai (eE f1) (eE f2) ?_));rw [zw (by simp; omega),<- Js]; rfl
 refine ah k1 (ah k2 (ah (kC (pK (jK rfl rfl)) e1) (dC (ar (m4 rfl e3.co rfl)))))
theorem zI {l:Nat} {x y:Cell} (e:l=s.length):(s++[x]).set l y=s++[y]:=by
 subst e;rw [JQ _ _ (IF _),Jq]; rfl
theorem sV {l:Nat} {x:Cell} (e:l=s.length):(s++[x])[l]?=some x:=by
 subst e;rw [IJ (IF _),Jq]; rfl
theorem CZ (t:Nat) (w:Fin 7):bc [.r s.length,.d (.str (wd w)),.d (.int 0),.r t] (s++[.obj 2 []])=some (.d .none,s++[.obj 2 (cf t w ⟨false,false,false⟩)]):=by
 refine u4 (w1:=⟨[some (.r s.length),some (.d (.str (wd w))),some (.d (.int 0)),some (.r t)],s++[.obj 2 (cf t w ⟨false,false,false⟩)]⟩) rfl ?_;show hJ ⟨[some (.r s.length),some (.d (.str (wd w))),some (.d (.int 0)),some (.r t)],s++[.obj 2 []]⟩=_;have st:∀ (nm:Str) (e:MF) (d:D) (fs:List (Str×D)),fs.length < 999->(∀ s0,e ⟨[some (.r s.length),some (.d (.str (wd w))),some (.d (.int 0)),some (.r t)],s0⟩=some (d,s0))->hG 2 nm (mV 0) e ⟨[some (.r s.length),some (.d (.str (wd w))),some (.d (.int 0)),some (.r t)],s++[.obj 2 fs]⟩=some (.nx ⟨[some (.r s.length),some (.d (.str (wd w))),some (.d (.int 0)),some (.r t)],s++[.obj 2 (sq nm d fs)]⟩):=λ nm e d fs hl he=>by
  rw [fg (he _) rfl (sV rfl) hl,zI rfl]
 refine ah (st _ _ (.d (.str (wd w))) _ (by decide) λ _=>ar rfl) (ah (st _ _ (.d (.int 0)) _ (by show 1 < 999; decide) λ _=>ar rfl) (ah (st _ _ (.r t) _ (by show 2 < 999; decide) λ _=>rfl) (ah (st _ _ (.d (.bool false)) _ (by show 3 < 999; decide) λ _=>ar rfl) (ah (st _ _ (.d (.bool false)) _ (by show 4 < 999; decide) λ _=>ar rfl) (st _ _ (.d (.bool false)) _ (by show 5 < 999; decide) λ _=>ar rfl)))))
noncomputable def anD (c:Sc) (T:List He) (b:Bool):Iw:=.tuple [.list (T.map (rwD c)),.bool b]
noncomputable def ran (H:List He) (w:Fin 7) (l:List Nat):List He×Fl:=runs H w l ⟨false,false,false⟩
theorem Gx (P0:Hl s a b c H m) (tr:Tn c ps) (u:Un H) (hl:H.length<=40) {q:Nat} (hq:In ps q) (w:Fin 7) :
  ∃ s',cY [.r a,.d (c.s q),.d (.str (wd w))] s=some (.d (anD c (ran H w (P ps q)).1 (ran H w (P ps q)).2.kp),s')/\∀ i,i < s.length->s'[i]?=s[i]?:=by
 have la:=gy P0.ob;have lb:=gy P0.dc;have s1:∃ s1,s1=s++[Cell.lst []]:=⟨_,rfl⟩;obtain ⟨s1,e1⟩:=s1;have l1:s1.length=s.length+1:=by rw [e1]; simp
 have C0:Cr (s1++[.obj 2 (cf s.length w ⟨false,false,false⟩)]) (s1++[.obj 2 (cf s.length w ⟨false,false,false⟩)]) a b s1.length s.length c H m w [] ⟨false,false,false⟩:=⟨⟨by rw [IC (by omega),e1,IC la]; exact P0.ob,by rw [IC (by omega),e1,IC lb]; exact P0.dc⟩,sV rfl,by rw [IC (by omega),e1]; exact sV rfl,λ _ _ _=>rfl⟩;obtain ⟨s2,r1,C⟩:=EE C0 tr u hl hq;refine ⟨s2.set s.length (.fz (.list ((ran H w (P ps q)).1.map (rwD c)))),dB rfl (show kX b5 bc ⟨[some (.r a),some (.d (c.s q)),some (.d (.str (wd w))),none,none],s⟩=_ from ?_),λ i hi=>by rw [Iz (by omega),C.kp i (by omega) (by omega),IC (by omega),e1,IC hi]⟩;have o1:s1[a]?=some (.obj 3 (hf c b m)):=by rw [e1,IC la]; exact P0.ob
 have k1:dP 3 (mN (λ η=>(aN η).bind gL)) ⟨[some (.r a),some (.d (c.s q)),some (.d (.str (wd w))),none,none],s⟩=some (.nx ⟨[some (.r a),some (.d (c.s q)),some (.d (.str (wd w))),some (.r s.length),none],s1⟩):=by rw [e1]; exact aS mN0
 have k2:dP 4 (bG 3 "go_along" b5 (mV 0) (maC (mP (eV 1)) (maC (pB 2 bc (maC (mP (eV 2)) (maC (mP (eC (.int 0))) (maC (mV 3) maN)))) maN))) ⟨[some (.r a),some (.d (c.s q)),some (.d (.str (wd w))),some (.r s.length),none],s1⟩=some (.nx ⟨[some (.r a),some (.d (c.s q)),some (.d (.str (wd w))),some (.r s.length),some (.d (.bool (ran H w (P ps q)).2.kp))],s2⟩):=by
  have k3:=pA (k:=2) (fn:=bc) (w:=⟨[some (.r a),some (.d (c.s q)),some (.d (.str (wd w))),some (.r s.length),none],s1⟩) (fs:=maC (mP (eV 2)) (maC (mP (eC (.int 0))) (maC (mV 3) maN))) (aD (ar rfl) (aD (ar rfl) (aD rfl bD))) (CZ s.length w);exact aS (b8 rfl o1 rfl (aD (ar rfl) (aD k3 bD)) r1)
 refine ah k1 (ah k2 (dC ?_));have k4:=zc (f:=mV 3) (w:=⟨[some (.r a),some (.d (c.s q)),some (.d (.str (wd w))),some (.r s.length),some (.d (.bool (ran H w (P ps q)).2.kp))],s2⟩) rfl C.tl (xi _ _);exact yb (aD k4 (aD (ar rfl) bD)) rfl (by simp)
end
noncomputable def he (K:Nat) (w:Fin 7) (q:Nat):He:=⟨5*(q - 1)+w.val,q,w,false,if q=K/\w.val=2 then [.keep] else []⟩
noncomputable def ws:List (Fin 7):=[0,1,2,3,4]
noncomputable def hrb (K:Nat) (q:Nat):List He:=ws.map λ w=>he K w q
noncomputable def hrs (K:Nat):Nat->List He
 | 0=>[]
 | n+1=>hrs K n++hrb K (n+1)
theorem xa (K:Nat):∀ n,(hrs K n).length=5*n
 | 0=>rfl
 | n+1=>by
  show (hrs K n++hrb K (n+1)).length=_;rw [IA,xa K n];show 5*n+5=_;omega
theorem ws5:∀ w∈ws,w.val < 5:=by decide
theorem Gy:∀ w:Fin 7,w.val < 5->(ws.filter λ x=>decide (x=w))=[w]:=by decide
theorem Fb:∀ w:Fin 7,¬ w.val < 5->(ws.filter λ x=>decide (x=w))=[]:=by decide
theorem Af {K q:Nat} {h:He} (hh:h∈hrb K q):∃ w:Fin 7,w.val < 5/\h=he K w q:=by
 obtain ⟨w,hw,rfl⟩:=JP.mp hh;refine ⟨w,?_,rfl⟩;exact ws5 w hw
theorem rW {K:Nat} {h:He}:∀ {n:Nat},h∈hrs K n->∃ (w:Fin 7) (q:Nat),w.val < 5/\1<=q/\q<=n/\h=he K w q
 | 0,hh=>by cases hh
 | n+1,hh=>by
  rcases JF.mp (show h∈hrs K n++hrb K (n+1) from hh) with h1 | h1
  ·obtain ⟨w,q,a,b,c,e⟩:=rW h1;exact ⟨w,q,a,b,by omega,e⟩
  ·obtain ⟨w,a,e⟩:=Af h1;exact ⟨w,n+1,a,by omega,by omega,e⟩
theorem F7 {K n:Nat} {h:He} (hh:h∈hrs K n):h.i < 5*n:=by
 obtain ⟨w,q,a,b,c,rfl⟩:=rW hh;show 5*(q - 1)+w.val < 5*n;omega
theorem F6 (K n:Nat):Un (hrs K n):=by
 intro x hx y hy e;obtain ⟨w,q,a,b,c,rfl⟩:=rW hx;obtain ⟨w',q',a',b',c',rfl⟩:=rW hy;have e:5*(q - 1)+w.val=5*(q' - 1)+w'.val:=e;have e1:q=q':=by omega
 have e2:w=w':=Fin.ext (by omega);rw [e1,e2]
theorem zi (K q q':Nat) (w:Fin 7):(hrb K q').filter (mt q w false)=if q'=q/\w.val < 5 then [he K w q] else []:=by
 by_cases e:q'=q
 ·subst e;have h:(hrb K q').filter (mt q' w false)=(ws.filter λ x=>decide (x=w)).map λ w=>he K w q':=by
   unfold hrb;rw [List.filter_map]
   congr 1
   refine List.filter_congr λ x _=>?_;simp [mt,he]
  rw [h];by_cases h5:w.val < 5
  ·rw [if_pos ⟨rfl,h5⟩];rw [Gy w h5]; rfl
  ·rw [if_neg λ h=>h5 h.2];rw [Fb w h5]; rfl
 ·rw [if_neg λ h=>e h.1];rw [List.filter_eq_nil_iff];intro x hx;obtain ⟨w',_,rfl⟩:=Af hx;simp [mt,he,e]
theorem qV (K q:Nat) (w:Fin 7) (hq:1<=q):∀ n,(hrs K n).filter (mt q w false)=if q<=n/\w.val < 5 then [he K w q] else []
 | 0=>by rw [if_neg (by omega)]; rfl
 | n+1=>by
  show (hrs K n++hrb K (n+1)).filter _=_;rw [Ki,qV K q w hq n,zi];by_cases h1:q<=n
  ·by_cases h2:w.val < 5
   ·rw [if_pos ⟨h1,h2⟩,if_neg (by omega),if_pos ⟨by omega,h2⟩]; rfl
   ·rw [if_neg λ h=>h2 h.2,if_neg λ h=>h2 h.2,if_neg λ h=>h2 h.2]; rfl
  ·by_cases h2:w.val < 5
   ·by_cases h3:n+1=q
    ·rw [if_neg λ h=>h1 h.1,if_pos ⟨h3,h2⟩,if_pos ⟨by omega,h2⟩]; rfl
    ·rw [if_neg λ h=>h1 h.1,if_neg λ h=>h3 h.1,if_neg (by omega)]; rfl
   ·rw [if_neg λ h=>h2 h.2,if_neg λ h=>h2 h.2,if_neg λ h=>h2 h.2]; rfl
theorem Cj (K q:Nat) (w:Fin 7) (n:Nat):(hrs K n).filter (mt q w true)=[]:=by
 rw [List.filter_eq_nil_iff];intro x hx;obtain ⟨w',q',_,_,_,rfl⟩:=rW hx;simp [mt,he]
theorem Ap (K:Nat) (w:Fin 7) (n:Nat):∀ (l:List Nat) (st:List He×Fl),(l.map dT).foldl (atp (hrs K n) w) st=st
 | [],_=>rfl
 | x::r,st=>by
  rw [IN,J9];have e:atp (hrs K n) w st (dT x)=st:=by
   unfold atp
   split
   ·rfl
   ·show ((hrs K n).filter (mt x w true)).foldl stp st=st;rw [Cj]; rfl
  rw [e];exact Ap K w n r st
theorem Ao (K:Nat) (w:Fin 7) (n:Nat) (hw:¬ w.val < 5):∀ (l:List Nat),(∀ x∈l,1<=x)->∀ (st:List He×Fl),(l.map dF).foldl (atp (hrs K n) w) st=st
 | [],_,_=>rfl
 | x::r,h,st=>by
  rw [IN,J9];have e:atp (hrs K n) w st (dF x)=st:=by
   unfold atp
   split
   ·rfl
   ·show ((hrs K n).filter (mt x w false)).foldl stp st=st;rw [qV K x w (h x IW),if_neg λ h=>hw h.2]; rfl
  rw [e];exact Ao K w n hw r (λ y hy=>h y (IQ _ hy)) st
theorem E3 (K:Nat) (w:Fin 7) (n:Nat) (hw:w.val < 5):∀ (l:List Nat),(∀ x∈l,1<=x/\x<=n)->∀ (T:List He) (k:Bool),(l.map dF).foldl (atp (hrs K n) w) (T,⟨k,false,false⟩)=(T++l.map (he K w),⟨k||(decide (w.val=2)&&decide (K∈l)),false,false⟩)
 | [],_,T,k=>by simp
 | x::r,h,T,k=>by
  have hx:=h x IW;rw [IN,J9];have e:atp (hrs K n) w (T,⟨k,false,false⟩) (dF x)=(T++[he K w x],⟨k||(decide (w.val=2)&&decide (K=x)),false,false⟩):=by
   unfold atp;rw [if_neg (by simp)];show ((hrs K n).filter (mt x w false)).foldl stp _=_;rw [qV K x w hx.1,if_pos ⟨hx.2,hw⟩];rw [J9,List.foldl_nil];unfold stp;rw [if_neg (by simp)]
   congr 1
   show Fl.ups _ (if x=K/\w.val=2 then [.keep] else [])=_;by_cases h1:x=K/\w.val=2
   ·rw [if_pos h1,decide_eq_true h1.2,decide_eq_true h1.1.symm];cases k <;> rfl
   ·rw [if_neg h1]
    have:(decide (w.val=2)&&decide (K=x))=false:=by
     rw [Bool.and_eq_false_iff,decide_eq_false_iff_not,decide_eq_false_iff_not];by_cases h2:w.val=2
     ·exact Or.inr λ h3=>h1 ⟨h3.symm,h2⟩
     ·exact Or.inl h2
    rw [this];cases k <;> rfl
  rw [e,E3 K w n hw r (λ y hy=>h y (IQ _ hy))];refine Prod.ext (by simp) ?_;show (⟨_,false,false⟩:Fl)=⟨_,false,false⟩
  congr 1
  rw [Bool.or_assoc,<- Bool.and_or_distrib_left]
  congr 2
  rw [<- Bool.decide_or];exact decide_eq_decide.mpr IY.symm
theorem Dl (K:Nat) (w:Fin 7) (n:Nat) {l:List Nat} (hl:∀ x∈l,1<=x/\x<=n):ran (hrs K n) w l=if w.val < 5 then (l.reverse.map (he K w),⟨decide (w.val=2)&&decide (K∈l),false,false⟩) else ([],⟨false,false,false⟩):=by
 unfold ran runs trn;rw [Kp,Ap];by_cases h:w.val < 5
 ·rw [if_pos h,E3 K w n h l.reverse (λ x hx=>hl x (J6.mp hx))]
  simp
 ·rw [if_neg h,Ao K w n h l.reverse (λ x hx=>(hl x (J6.mp hx)).1)]
noncomputable abbrev Row:=Fin 7×Nat
noncomputable def mH (c:Sc) (r:Row):Iw:=.tuple [.str (wd r.1),c.s r.2]
noncomputable def eRw (c:Sc) (x:Row×Nat):Iw:=.tuple [.int (x.2:Int),mH c x.1]
theorem xg {c:Sc}:∀ (R:List Row) (n:Nat),kS (R.map (mH c)) n=(R.zipIdx n).map (eRw c)
 | [],_=>rfl
 | x::r,n=>by
  rw [IN,List.zipIdx_cons,IN];unfold kS;rw [xg r (n+1)]; rfl
noncomputable def clR (K:Nat) (ps:List Nat) (r:Row):List He:=if r.1.val < 5 then (P ps r.2).reverse.map (he K r.1) else []
noncomputable def kpR (K:Nat) (ps:List Nat) (r:Row):Bool:=decide (r.1.val=2)&&decide (K∈P ps r.2)
noncomputable def clX (K:Nat) (ps:List Nat) (D:List (Row×Nat)):List He:=D.flatMap λ x=>clR K ps x.1
noncomputable def kpX (K:Nat) (ps:List Nat) (D:List (Row×Nat)):List Nat:=(D.filter λ x=>kpR K ps x.1).map (·.2)
noncomputable def seD (c:Sc) (C:List He) (k:List Nat):Iw:=.tuple [.list (C.map (rwD c)),.list (k.map λ i:Nat=>.int (i:Int))]
section
variable {s:Sto} {a b K:Nat} {c:Sc} {ps:List Nat} {m:Nat}
theorem xk (tr:Tn c ps) {r:Row} (hq:In ps r.2):(clR K ps r).length<=7:=by
 unfold clR
 split
 ·rw [Iy,Jr]; exact P_7 (qo tr) hq
 ·simp
theorem uv (tr:Tn c ps):∀ (D:List (Row×Nat)),(∀ x∈D,In ps x.1.2)->(clX K ps D).length<=7*D.length
 | [],_=>by simp [clX]
 | x::r,h=>by
  have e:clX K ps (x::r)=clR K ps x.1++clX K ps r:=rfl;have h1:=xk (K:=K) tr (h x IW);have h2:=uv tr r λ y hy=>h y (IQ _ hy);rw [e,IA,IX];omega
theorem D6 (D:List (Row×Nat)):(kpX K ps D).length<=D.length:=by
 unfold kpX;rw [Iy]; exact JO _ _
theorem zM (tr:Tn c ps) {r:Row} (hq:In ps r.2):(ran (hrs K ps.length) r.1 (P ps r.2)).1=clR K ps r/\(ran (hrs K ps.length) r.1 (P ps r.2)).2.kp=kpR K ps r:=by
 have h:=Dl K r.1 ps.length (l:=P ps r.2) λ x hx=>P_in' tr.ps r.2 hq hx;unfold clR kpR;rw [h];by_cases h5:r.1.val < 5
 ·rw [if_pos h5,if_pos h5]; exact ⟨rfl,rfl⟩
 ·rw [if_neg h5,if_neg h5];refine ⟨rfl,?_⟩
  have:decide (r.1.val=2)=false:=by rw [decide_eq_false_iff_not]; omega
  rw [this]; rfl
theorem B6 {w:Wd} {n:Nat} {s s1:Sto} {d:D} {ds ds0:List D} {ys:List Iw} {o g:MF} (h1:o w=some (.r n,s)) (h2:s[n]?=some (.lst ds0)) (h3:g ⟨w.η,s⟩=some (d,s1)) (hd:pD s1 d=some (.list ys)) (h4:s1[n]?=some (.lst ds)) (hl:ds.length+ys.length<=3000000):qv o g w=some (.d .none,s1.set n (.lst (ds++ys.map .d))):=by
 unfold qv;rw [h1,Ix];dsimp only;rw [h2];dsimp only;rw [h3,Ix,hd,Ix];dsimp only;rw [h4];dsimp only;rw [if_pos (Jd hl (by decide))]
structure Se (s0 s:Sto) (c:Sc) (C:List He) (k:List Nat):Prop where
 kp:∀ i,i < s0.length->s[i]?=s0[i]?
 cl:s[s0.length]?=some (.lst (C.map λ x=>D.d (rwD c x)))
 ke:s[s0.length+1]?=some (.lst (k.map λ i:Nat=>D.d (.int (i:Int))))
theorem tj (P0:Hl s a b c (hrs K ps.length) m) (tr:Tn c ps) (R:List Row) (hR:∀ r∈R,In ps r.2) (lR:R.length<=1000) :
  ∃ s',eP [.r a,.d (.list (R.map (mH c)))] s=some (.d (seD c (clX K ps R.zipIdx) (kpX K ps R.zipIdx)),s')/\∀ i,i < s.length->s'[i]?=s[i]?:=by
 have la:=gy P0.ob;have lb:=gy P0.dc;have lH:(hrs K ps.length).length<=40:=by rw [xa]; have:=tr.ps.len; omega
 have hZ:∀ x∈R.zipIdx,In ps x.1.2:=λ x hx=>hR _ (J3 hx);have lZ:R.zipIdx.length<=1000:=by rw [Kj]; exact lR
 let rv:D:=.d (.list (R.map (mH c)))
 obtain ⟨w',e1,s',x4,x5,x6,rfl,e3⟩:=lJ (ks:=[4,5]) (t:=tgT (aO (tgN 4) (aO (tgN 5) gi))) (body:=(mIf (mB (mCB aU (maC (bG 3 "boxes" cE (mV 0) maN) (maC (mP (l2 pIx (eV 5) (eC (.int 1)))) maN)))) (bb (dP 6 (bG 3 "call" cY (mV 0) (maC (mP (l2 pIx (eV 5) (eC (.int 1)))) (maC (mP (l2 pIx (eV 5) (eC (.int 0)))) maN))))
  (bb (km (qv (mV 2) (mP (l2 pIx (eV 6) (eC (.int 0))))))
  (mIf (tPv (bT (l2 pIx (eV 6) (eC (.int 1))))) (km (wg (mV 3) (mP (eV 4)))) mNx))) mNx))
  (eRw c) (λ done w1=>∃ s1 x4 x5 x6,w1=⟨[some (.r a),some rv,some (.r s.length),some (.r (s.length+1)),x4,x5,x6],s1⟩/\Se s s1 c (clX K ps done) (kpX K ps done)) R.zipIdx
  (w:=⟨[some (.r a),some rv,some (.r s.length),some (.r (s.length+1)),none,none,none],(s++[.lst []])++[.lst []]⟩)
  (λ done x rest w1 e ⟨s1,x4,x5,x6,ew,S⟩=>by
   subst ew;have hx:x∈R.zipIdx:=by rw [e]; simp
   have hin:=hZ x hx;have ld:done.length<=1000:=by
    have:=congrArg List.length e
    rw [IA] at this;omega
   have lc:=uv (K:=K) tr done λ y hy=>hZ y (by rw [e]; exact JL _ hy);have lk:=D6 (K:=K) (ps:=ps) done;have lr:=xk (K:=K) tr hin;have l1:=gy S.cl;have l2':=gy S.ke;have o1:s1[a]?=some (.obj 3 (hf c b m)):=by rw [S.kp a la]; exact P0.ob
   have d1:s1[b]?=some (.dct (kvs c (hrs K ps.length))):=by rw [S.kp b lb]; exact P0.dc
   obtain ⟨s2,hc,k2⟩:=Gx ⟨o1,d1⟩ tr (F6 K ps.length) lH hin x.1.1;rw [(zM tr hin).1,(zM tr hin).2] at hc;have hh:aU [c.d,c.s x.1.2]=some (.bool true):=by
    rw [HB tr.ok,tr.st]
    congr 2
    rw [JZ];exact ⟨_,y8 hin.1 hin.2,by simp⟩
   have hbx:cE [.r a] s1=some (.d c.d,s1):=dB rfl (dC (ar (m4 rfl o1 rfl)));have ec:clX K ps (done++[x])=clX K ps done++clR K ps x.1:=by unfold clX; rw [KH]; simp
   have S2:Se s s2 c (clX K ps done) (kpX K ps done):=⟨λ i hi=>by rw [k2 i (by omega)]; exact S.kp i hi,by rw [k2 _ l1]; exact S.cl,by rw [k2 _ l2']; exact S.ke⟩;have S3:Se s (s2.set s.length (.lst ((clX K ps done++clR K ps x.1).map λ x=>D.d (rwD c x)))) c (clX K ps (done++[x])) (kpX K ps done):=⟨λ i hi=>by rw [Iz (by omega)]; exact S2.kp i hi,by rw [ec]; exact sj S2.cl,by rw [Iz (by omega)]; exact S2.ke⟩;refine ⟨⟨[some (.r a),some rv,some (.r s.length),some (.r (s.length+1)),some (.d (.int (x.2:Int))),some (.d (mH c x.1)),x6],s1⟩,?_⟩;have g1:mB (mCB aU (maC (bG 3 "boxes" cE (mV 0) maN) (maC (mP (l2 pIx (eV 5) (eC (.int 1)))) maN))) ⟨[some (.r a),some rv,some (.r s.length),some (.r (s.length+1)),some (.d (.int (x.2:Int))),some (.d (mH c x.1)),x6],s1⟩=some (true,s1) :=
    G3 (FR (aD (b8 rfl o1 rfl bD hbx) (aD (ar (ai rfl rfl rfl)) bD)) rfl hh)
   have g2:dP 6 (bG 3 "call" cY (mV 0) (maC (mP (l2 pIx (eV 5) (eC (.int 1)))) (maC (mP (l2 pIx (eV 5) (eC (.int 0)))) maN))) ⟨[some (.r a),some rv,some (.r s.length),some (.r (s.length+1)),some (.d (.int (x.2:Int))),some (.d (mH c x.1)),x6],s1⟩=some (.nx ⟨[some (.r a),some rv,some (.r s.length),some (.r (s.length+1)),some (.d (.int (x.2:Int))),some (.d (mH c x.1)),some (.d (anD c (clR K ps x.1) (kpR K ps x.1)))],s2⟩) :=
    aS (b8 rfl o1 rfl (aD (ar (ai rfl rfl rfl)) (aD (ar (ai rfl rfl rfl)) bD)) hc)
   have g3:km (qv (mV 2) (mP (l2 pIx (eV 6) (eC (.int 0))))) ⟨[some (.r a),some rv,some (.r s.length),some (.r (s.length+1)),some (.d (.int (x.2:Int))),some (.d (mH c x.1)),some (.d (anD c (clR K ps x.1) (kpR K ps x.1)))],s2⟩=some (.nx ⟨[some (.r a),some rv,some (.r s.length),some (.r (s.length+1)),some (.d (.int (x.2:Int))),some (.d (mH c x.1)),some (.d (anD c (clR K ps x.1) (kpR K ps x.1)))],s2.set s.length (.lst ((clX K ps done++clR K ps x.1).map λ x=>D.d (rwD c x)))⟩):=by
    have:=B6 (o:=mV 2) (g:=mP (l2 pIx (eV 6) (eC (.int 0)))) (w:=⟨[some (.r a),some rv,some (.r s.length),some (.r (s.length+1)),some (.d (.int (x.2:Int))),some (.d (mH c x.1)),some (.d (anD c (clR K ps x.1) (kpR K ps x.1)))],s2⟩) (ys:=(clR K ps x.1).map (rwD c)) rfl S2.cl (ar (ai rfl rfl rfl)) rfl S2.cl (by rw [Iy,Iy]; omega)
    rw [JE] at this;have h:=lK this;rw [Js];exact h
   by_cases hk:kpR K ps x.1=true
   ·have ek:kpX K ps (done++[x])=kpX K ps done++[x.2]:=by unfold kpX; rw [Ki,Js]; simp [hk]
    have g4:=yd (o:=mV 3) (g:=mP (eV 4)) (w:=⟨[some (.r a),some rv,some (.r s.length),some (.r (s.length+1)),some (.d (.int (x.2:Int))),some (.d (mH c x.1)),some (.d (anD c (clR K ps x.1) (kpR K ps x.1)))],s2.set s.length (.lst ((clX K ps done++clR K ps x.1).map λ x=>D.d (rwD c x)))⟩) (d:=.d (.int (x.2:Int))) rfl S3.ke (ar rfl) S3.ke (by rw [Iy]; omega);refine ⟨_,rfl,qR g1 (ah g2 (ah g3 (qR (dH (cA (ai rfl rfl (by show some (PyData.bool (kpR K ps x.1))=some (.bool true); rw [hk])))) (lK g4)))),_,_,_,_,rfl,?_⟩;refine ⟨λ i hi=>by rw [Iz (by omega)]; exact S3.kp i hi,by rw [Iz (by omega)]; exact S3.cl,?_⟩;rw [ek];exact (sj S3.ke).trans (by rw [Js]; rfl)
   ·have hk':kpR K ps x.1=false:=by simpa using hk
    have ek:kpX K ps (done++[x])=kpX K ps done:=by unfold kpX; rw [Ki,Js]; simp [hk']
    refine ⟨_,rfl,qR g1 (ah g2 (ah g3 (rO (dH (cA (ai rfl rfl (by show some (PyData.bool (kpR K ps x.1))=some (.bool false); rw [hk']))))))),_,_,_,_,rfl,?_⟩;rw [ek]; exact S3)
  ⟨_,none,none,none,rfl,λ i hi=>by rw [JJ,IC hi],by rw [IC (by simp)]; exact sV rfl,sV (by rw [IA]; rfl)⟩
 have l1:=gy e3.cl;have k5:=zc (f:=mV 2) (w:=⟨[some (.r a),some rv,some (.r s.length),some (.r (s.length+1)),x4,x5,x6],s'⟩) rfl e3.cl (xi _ _);have k6:=zc (f:=mV 3) (w:=⟨[some (.r a),some rv,some (.r s.length),some (.r (s.length+1)),x4,x5,x6],s'.set s.length (.fz (.list ((clX K ps R.zipIdx).map (rwD c))))⟩) (n:=s.length+1) rfl (by rw [Iz (by omega)]; exact e3.ke) (xi _ _);refine ⟨(s'.set s.length (.fz (.list ((clX K ps R.zipIdx).map (rwD c))))).set (s.length+1) (.fz (.list ((kpX K ps R.zipIdx).map λ i:Nat=>Jm (i:Int)))),dB rfl (show sK aU cE cY ⟨[some (.r a),some rv,none,none,none,none,none],s⟩=_ from ?_),?_⟩
 ·refine ah (aS mN0) (ah (w1:=⟨[some (.r a),some rv,some (.r s.length),some (.r (s.length+1)),none,none,none],(s++[.lst []])++[.lst []]⟩) ?_ (ah (kC (pK ?_) e1) (dC (yb (aD k5 (aD k6 bD)) rfl (by simp)))))
  ·refine (aS mN0).trans ?_
   simp
  ·show some (kS (R.map (mH c)) 0)=_;rw [xg]
 ·intro i hi;rw [Iz (by omega),Iz (by omega)];exact e3.kp i hi
end
theorem xK {s:Sto} {x y z:Cell}:(s++[x]++[y]).set s.length z=s++[z]++[y]:=by
 rw [JJ,JQ _ _ (IF _),Jq,JJ]; rfl
theorem Aq {s:Sto} {x y:Cell}:(s++[x]++[y])[s.length]?=some x:=by
 rw [JJ,IJ (IF _),Jq]; rfl
theorem CY {c:Sc} {s:Sto}:bA [.r s.length,.d c.d] (s++[.obj 3 []])=some (.d .none,s++[.obj 3 (hf c (s.length+1) 0)]++[.dct []]):=by
 refine u4 (w1:=⟨[some (.r s.length),some (.d c.d)],s++[.obj 3 (hf c (s.length+1) 0)]++[.dct []]⟩) rfl ?_;show iV ⟨[some (.r s.length),some (.d c.d)],s++[.obj 3 []]⟩=_;have k1:hG 3 "scene" (mV 0) (mP (eV 1)) ⟨[some (.r s.length),some (.d c.d)],s++[.obj 3 []]⟩=some (.nx ⟨[some (.r s.length),some (.d c.d)],s++[.obj 3 [("scene", .d c.d)]]⟩):=by
  rw [fg (ar rfl) rfl (sV rfl) (by decide),zI rfl]; rfl
 have k2:hG 3 "hearers" (mV 0) u5 ⟨[some (.r s.length),some (.d c.d)],s++[.obj 3 [("scene", .d c.d)]]⟩=some (.nx ⟨[some (.r s.length),some (.d c.d)],s++[.obj 3 [("scene", .d c.d),("hearers", .r (s.length+1))]]++[.dct []]⟩):=by
  have e:(s++[Cell.obj 3 [("scene", .d c.d)]]).length=s.length+1:=by simp
  have n1:u5 ⟨[some (.r s.length),some (.d c.d)],s++[.obj 3 [("scene", .d c.d)]]⟩=some (.r (s.length+1),s++[.obj 3 [("scene", .d c.d)]]++[.dct []]):=by
   show some (D.r (s++[Cell.obj 3 [("scene", .d c.d)]]).length,_)=_;rw [e]
  rw [fg n1 rfl Aq (by show 1 < 999; decide),xK]; rfl
 have k3:hG 3 "made" (mV 0) (mP (eC (.int 0))) ⟨[some (.r s.length),some (.d c.d)],s++[.obj 3 [("scene", .d c.d),("hearers", .r (s.length+1))]]++[.dct []]⟩=some (.nx ⟨[some (.r s.length),some (.d c.d)],s++[.obj 3 (hf c (s.length+1) 0)]++[.dct []]⟩):=by
  rw [fg (ar rfl) rfl Aq (by show 2 < 999; decide),xK]; rfl
 exact ah k1 (ah k2 k3)
noncomputable def wsD:Iw:=.list (ws.map λ w=>.str (wd w))
noncomputable def kvD (c:Sc) (K:Nat):Iw:=if K=0 then .str "zz" else c.s K
noncomputable abbrev hb1:Wd->Option MOut:=(km (bG 3 "hear" ee (mV 5) (maC (mP (l2 pIx (eV 6) (eC (.int 0)))) (maC (mP (eV 7)) (maC (mP (eC (.bool false))) (maC (mP (l2 pIx (oE (λ η=>((aC (lA (λ ds=>if ds.length<=IB then some (.tuple ds) else none) aN) (aC (lA (λ ds=>if ds.length<=IB then some (.tuple ds) else none) (aC (lA (λ ds=>if ds.length<=IB then some (.tuple ds) else none) (aC (eC (.str "keep")) aN)) aN)) aN)) η).bind gL)) (lA yY (aC (qK (l2 pEq (l2 pIx (eV 6) (eC (.int 0))) (eV 4)) (l2 pEq (eV 7) (eC (.str "move")))) aN)))) (maC (mP (eC (.bool false))) maN)))))))
noncomputable abbrev hb2:Wd->Option MOut:=(oV [7] (iPu (lI asL (eV 2))) (tgN 7) hb1)
noncomputable abbrev hb3:Wd->Option MOut:=(oV [6] (iPu (lI qj (eV 1))) (tgN 6) hb2)
noncomputable abbrev E6 (sc:D) (c:Sc) (K L:Nat) (x5 x6 x7:Option D):MEn:=[some sc,some (.d c.d),some (.d wsD),some (.r L),some (.d (kvD c K)),x5,x6,x7,none,none,none,none,none,none,none,none,none,none]
theorem EF:∀ (k:Nat) (x:Fin 7),ws[k]?=some x->x.val=k
 | 0,x,h=>by cases h; rfl
 | 1,x,h=>by cases h; rfl
 | 2,x,h=>by cases h; rfl
 | 3,x,h=>by cases h; rfl
 | 4,x,h=>by cases h; rfl
 | n+5,x,h=>by simp [ws] at h
theorem zr {α:Type} {l a b:List α} {x:α} (e:l=a++x::b):l[a.length]?=some x:=by
 rw [e,IJ (IF _),Jq]; rfl
theorem GL {ps:List Nat} {k:Nat} {x:Nat×Nat} (h:(stF ps)[k]?=some x):x.1=k+1/\k < ps.length:=by
 unfold stF at h;rw [IP] at h;by_cases hk:k < ps.length
 ·rw [J7 hk] at h;cases h; exact ⟨rfl,hk⟩
 ·rw [Ji (by simp; omega)] at h;cases h
theorem EG (w:Fin 7):pEq (.str (wd w)) (.str "move")=some (.bool (decide (w.val=2))):=by
 have h:("move" : Str)=wd 2:=rfl;rw [h,um (xC w) (xC 2)]
 congr 2
 exact decide_eq_decide.mpr ⟨λ e=>by rw [yJ e]; rfl,λ e=>by rw [show w=2 from Fin.ext e]⟩
structure Ky (c:Sc) (K:Nat):Prop where
 eq:∀ q,1<=q->pEq (c.s q) (kvD c K)=some (.bool (decide (q=K)))
section
variable {s:Sto} {a b K L:Nat} {c:Sc} {ps:List Nat} {m:Nat} {sc:D}
theorem vAnd_of' {f g:En->Option Iw} {η:En} {a b:Bool} (h1:f η=some (.bool a)) (h2:g η=some (.bool b)):qK f g η=some (.bool (a&&b)):=by
 unfold qK;rw [h1,Ix];show (some a).bind _=_;rw [Ix];cases a
 ·rfl
 ·rw [if_pos rfl,h2]; rfl
theorem Hf (ky:Ky c K) {H:List He} (P:Hl s a b c H m) (hl:H.length<=1000) (hi:∀ x∈H,x.i≠m) {q p:Nat} (hq:1<=q) (hb:ay [c.d,c.s q]=some (c.box (q,p))) (w:Fin 7) (em:m=5*(q - 1)+w.val) :
  ∃ s',hb1 ⟨E6 sc c K L (some (.r a)) (some (.d (c.box (q,p)))) (some (.d (.str (wd w)))),s⟩=some (.nx ⟨E6 sc c K L (some (.r a)) (some (.d (c.box (q,p)))) (some (.d (.str (wd w)))),s'⟩)/\Hl s' a b c (H++[he K w q]) (m+1)/\∀ i,i≠a->i≠b->s'[i]?=s[i]?:=by
 obtain ⟨s',h1,h2,h3⟩:=Gv P hl hi hb w false (he K w q).a;refine ⟨s',?_,?_,h3⟩
 ·have hv:qK (l2 pEq (l2 pIx (eV 6) (eC (.int 0))) (eV 4)) (l2 pEq (eV 7) (eC (.str "move"))) (vw ⟨E6 sc c K L (some (.r a)) (some (.d (c.box (q,p)))) (some (.d (.str (wd w)))),s⟩)=some (.bool (decide (q=K)&&decide (w.val=2))) :=
   vAnd_of' (ai (x:=c.s q) (y:=kvD c K) (ai (x:=c.box (q,p)) (y:=.int 0) rfl rfl rfl) rfl (ky.eq q hq)) (ai rfl rfl (EG w))
  have ha:(lA yY (aC (qK (l2 pEq (l2 pIx (eV 6) (eC (.int 0))) (eV 4)) (l2 pEq (eV 7) (eC (.str "move")))) aN)) (vw ⟨E6 sc c K L (some (.r a)) (some (.d (c.box (q,p)))) (some (.d (.str (wd w)))),s⟩)=some (.int (if (decide (q=K)&&decide (w.val=2))=true then 1 else 0)):=aR (ae hv rfl) rfl;have ho:oE (λ η=>((aC (lA (λ ds=>if ds.length<=IB then some (.tuple ds) else none) aN) (aC (lA (λ ds=>if ds.length<=IB then some (.tuple ds) else none) (aC (lA (λ ds=>if ds.length<=IB then some (.tuple ds) else none) (aC (eC (.str "keep")) aN)) aN)) aN)) η).bind gL) (vw ⟨E6 sc c K L (some (.r a)) (some (.d (c.box (q,p)))) (some (.d (.str (wd w)))),s⟩)=some (.list [dsD [],dsD [.keep]]) :=
   eE (cG (ae (aR rfl (dR (by simp))) (ae (aR (ae (aR (ae rfl rfl) (dR (by simp))) rfl) (dR (by simp))) rfl)) (iR (by simp)))
  have hx:l2 pIx (oE (λ η=>((aC (lA (λ ds=>if ds.length<=IB then some (.tuple ds) else none) aN) (aC (lA (λ ds=>if ds.length<=IB then some (.tuple ds) else none) (aC (lA (λ ds=>if ds.length<=IB then some (.tuple ds) else none) (aC (eC (.str "keep")) aN)) aN)) aN)) η).bind gL)) (lA yY (aC (qK (l2 pEq (l2 pIx (eV 6) (eC (.int 0))) (eV 4)) (l2 pEq (eV 7) (eC (.str "move")))) aN)) (vw ⟨E6 sc c K L (some (.r a)) (some (.d (c.box (q,p)))) (some (.d (.str (wd w)))),s⟩)=some (dsD (he K w q).a):=by
   refine ai ho ha ?_;by_cases h:q=K/\w.val=2
   ·rw [if_pos (by simp [h.1,h.2])];show _=some (dsD (if q=K/\w.val=2 then [.keep] else []));rw [if_pos h]; rfl
   ·rw [if_neg (by simpa using h)];show _=some (dsD (if q=K/\w.val=2 then [.keep] else []));rw [if_neg h]; rfl
  exact lK (b8 rfl P.ob rfl (aD (ar (x:=c.s q) (ai (x:=c.box (q,p)) (y:=.int 0) rfl rfl rfl)) (aD (ar (x:=.str (wd w)) rfl) (aD (ar rfl) (aD (ar hx) (aD (ar rfl) bD))))) h1)
 ·have:(⟨m,q,w,false,(he K w q).a⟩:He)=he K w q:=by rw [em]; rfl
  rw [this] at h2;exact h2
theorem Hb (ky:Ky c K) {j:Nat} (hj:j < 7) (P:Hl s a b c (hrs K j) (5*j)) {p:Nat} (hb:ay [c.d,c.s (j+1)]=some (c.box (j+1,p))) (x7:Option D) :
  ∃ s' y7,hb2 ⟨E6 sc c K L (some (.r a)) (some (.d (c.box (j+1,p)))) x7,s⟩=some (.nx ⟨E6 sc c K L (some (.r a)) (some (.d (c.box (j+1,p)))) y7,s'⟩)/\Hl s' a b c (hrs K (j+1)) (5*(j+1))/\∀ i,i≠a->i≠b->s'[i]?=s[i]?:=by
 obtain ⟨w',e1,s',y7,rfl,e3,e4⟩:=lJ (ks:=[7]) (t:=tgN 7) (body:=hb1) (λ w:Fin 7=>PyData.str (wd w)) (λ done w1=>∃ s1 y7,w1=⟨E6 sc c K L (some (.r a)) (some (.d (c.box (j+1,p)))) y7,s1⟩/\Hl s1 a b c (hrs K j++done.map λ w=>he K w (j+1)) (5*j+done.length)/\∀ i,i≠a->i≠b->s1[i]?=s[i]?) ws
  (w:=⟨E6 sc c K L (some (.r a)) (some (.d (c.box (j+1,p)))) x7,s⟩)
  (λ done x rest w1 e ⟨s1,y7,ew,P1,f1⟩=>by
   subst ew;have hx:=EF _ _ (zr e);have hd:done.length < 5:=by
    have:=congrArg List.length e
    rw [IA,IX] at this;have h5:ws.length=5:=rfl;omega
   have hlen:=xa K j;obtain ⟨s2,h1,h2,h3⟩:=Hf (sc:=sc) (L:=L) ky P1 (by rw [IA,Iy]; omega) (λ y hy=>by
    rcases JF.mp hy with z | z
    ·have:=F7 z; omega
    ·obtain ⟨w2,hw2,rfl⟩:=JP.mp z;obtain ⟨k,hk⟩:=KC hw2;have hk2:=(ID.mp hk).1;have e5:ws[k]?=some w2:=by rw [e,IC hk2]; exact hk
     have e6:=EF _ _ e5;show 5*(j+1 - 1)+w2.val≠_;omega) (by omega) hb x (by omega)
   refine ⟨_,_,pz (by show 7 < 18; decide),h1,s2,_,rfl,?_,λ i i1 i2=>by rw [h3 i i1 i2]; exact f1 i i1 i2⟩;rw [Js,<- JJ,IA];exact h2)
  ⟨s,x7,rfl,by rw [Kv,JB]; exact P,λ _ _ _=>rfl⟩
 exact ⟨s',y7,kC (pK (jK rfl rfl)) e1,e3,e4⟩
theorem EX (ky:Ky c K) (tr:Tn c ps) (P:Hl s a b c [] 0) (x6 x7:Option D) :
  ∃ s' y6 y7,hb3 ⟨E6 sc c K L (some (.r a)) x6 x7,s⟩=some (.nx ⟨E6 sc c K L (some (.r a)) y6 y7,s'⟩)/\Hl s' a b c (hrs K ps.length) (5*ps.length)/\∀ i,i≠a->i≠b->s'[i]?=s[i]?:=by
 have h7:=tr.ps.len;have el:(stF ps).length=ps.length:=by unfold stF; rw [Iy,JT]
 obtain ⟨w',e1,s',y6,y7,rfl,e3,e4⟩:=lJ (ks:=[6]) (t:=tgN 6) (body:=hb2) c.box (λ done w1=>∃ s1 y6 y7,w1=⟨E6 sc c K L (some (.r a)) y6 y7,s1⟩/\Hl s1 a b c (hrs K done.length) (5*done.length)/\∀ i,i≠a->i≠b->s1[i]?=s[i]?) (stF ps)
  (w:=⟨E6 sc c K L (some (.r a)) x6 x7,s⟩)
  (λ done x rest w1 e ⟨s1,y6,y7,ew,P1,f1⟩=>by
   subst ew;obtain ⟨hx,hk⟩:=GL (zr e);obtain ⟨x1,x2⟩:=x;dsimp only at hx;subst hx;have hin:In ps (done.length+1):=⟨by omega,by omega⟩;have hb:=E7 (qo tr) hin;have e2:x2=par ps (done.length+1):=by
    have:=zr e
    unfold stF at this;rw [IP,J7 hk] at this;injection this with z
    injection z with z1 z2
    rw [<- z2]; rfl
   subst e2;obtain ⟨s2,z7,h1,h2,h3⟩:=Hb (sc:=sc) (L:=L) ky (by omega) P1 hb y7;refine ⟨_,_,pz (by show 6 < 18; decide),h1,s2,_,_,rfl,?_,λ i i1 i2=>by rw [h3 i i1 i2]; exact f1 i i1 i2⟩;rw [IA];exact h2)
  ⟨s,x6,x7,rfl,P,λ _ _ _=>rfl⟩
 rw [el] at e3;refine ⟨s',y6,y7,kC (pK (jK (d:=c.d) rfl ?_)) e1,e3,e4⟩;show some (c.st.map c.box)=_;rw [tr.st]
end
end K26.HL
namespace K26
open PySem L2 L2.PU
open HL (wd) in
noncomputable def Rok (ps:List Nat) (r:Str×Nat):Prop:=(∃ w:Fin 7,r.1=wd w)/\In ps r.2
structure Hin (ps:List Nat) (h:Hd):Prop where
 tr:∀ x∈h.trail,In ps x
 pr:∀ l,h.pr=some l->∀ x∈l,In ps x
 held:∀ x,h.held=some x->In ps x
theorem zG:∀ (a b:List Nat),∀ x∈shN a b,x∈a
 | [],_,x,h=>by simp [shN] at h
 | y::ys,[],x,h=>by simp [shN] at h
 | y::ys,z::zs,x,h=>by
  unfold shN at h;split at h
  ·rcases IY.mp h with rfl | h
   ·exact IW
   ·exact IQ _ (zG ys zs x h)
  ·cases h
section
variable {ps:List Nat} {h:Hd} {p:List Nat} {mo:Int}
theorem Ba {w:Str} (hw:∃ v:Fin 7,w=HL.wd v) {l:List Nat} (hl:∀ x∈l,In ps x):∀ r∈wr w l,Rok ps r:=λ r hr=>by
 obtain ⟨x,hx,rfl⟩:=JP.mp hr;exact ⟨hw,hl x hx⟩
theorem wZ (ht:∀ x∈h.trail,In ps x) (hp:∀ x∈p,In ps x):∀ r∈lead h p,Rok ps r:=λ r hr=>by
 rcases JF.mp hr with z | z
 ·exact Ba ⟨1,rfl⟩ (λ x hx=>ht x (Kd (J6.mp hx))) r z
 ·exact Ba ⟨0,rfl⟩ (λ x hx=>hp x (Kd hx)) r z
theorem wE (ht:∀ x,h.held=some x->In ps x) {w:Str} (hw:∃ v:Fin 7,w=HL.wd v):∀ r∈tell h w,Rok ps r:=λ r hr=>by
 unfold tell at hr;split at hr
 ·rename_i x hx;rw [Jc.mp hr]; exact ⟨hw,ht x hx⟩
 ·cases hr
theorem CB {k:Nat} (hk:In ps k):∀ r∈mx h k mo,Rok ps r:=λ r hr=>by
 unfold mx at hr;split at hr
 ·simp only [IY,J5,or_false] at hr;rcases hr with rfl | rfl
  ·exact ⟨⟨5,rfl⟩,hk⟩
  ·exact ⟨⟨6,rfl⟩,hk⟩
 ·rw [Jc.mp hr];exact ⟨⟨5,rfl⟩,hk⟩
theorem Fd {q:List Nat} (hq:∀ x∈q,In ps x):∀ x∈upN q p,In ps x:=λ x hx=>hq x (zG q p x (Kd hx))
theorem Be (mo:Int) (l:List Nat):(oZ h mo l).trail=h.trail/\(oZ h mo l).pr=none/\(oZ h mo l).held=none:=by
 cases l <;> exact ⟨rfl,rfl,rfl⟩
theorem GK (way:Nat) (hi:Hin ps h) (hp:∀ x∈p,In ps x):(∀ r∈stR way h p mo,Rok ps r)/\Hin ps (stH way h p mo):=by
 have hg:∀ x,p.getLast?=some x->In ps x:=λ x hx=>hp x (List.mem_of_getLast? hx);have hd1:Hin ps (yo h p):=by
  unfold yo
  split
  ·exact ⟨hp,λ l e=>by cases e; exact hp,hg⟩
  ·exact ⟨hi.tr,λ l e=>by cases e; exact hp,hi.held⟩
 unfold stR stH
 split
 ·unfold mvR mvH
  split
  ·refine ⟨λ r hr=>?_,⟨hp,hi.pr,hi.held⟩⟩;rcases JF.mp hr with z | z
   ·exact wZ hi.tr hp r z
   ·exact Ba ⟨2,rfl⟩ (λ x hx=>hp x (Kd hx)) r z
  ·exact ⟨wE hi.held ⟨2,rfl⟩,hi⟩
 ·split
  ·unfold dnR dnH
   split
   ·refine ⟨λ r hr=>?_,hd1⟩;rcases JF.mp hr with z | z
    ·split at z
     ·exact wZ (h:={ h with pr:=some p }) hi.tr hp r z
     ·cases z
    ·exact wE hd1.held ⟨3,rfl⟩ r z
   ·exact ⟨λ r hr=>(by cases hr),hi⟩
  ·unfold upR upH;cases hpr:h.pr with
   | none=>exact ⟨λ r hr=>(by cases hr),hi⟩
   | some q =>
    have hN:=Fd (p:=p) (hi.pr q hpr);have h1:=Be (h:=h) mo (upN q p);refine ⟨λ r hr=>?_,⟨hp,λ l e=>?_,λ x e=>?_⟩⟩
    ·rcases JF.mp hr with z | z
     ·rcases JF.mp z with y | y
      ·exact wE hi.held ⟨4,rfl⟩ r y
      ·cases hN':upN q p with
       | nil=>rw [hN'] at y; cases y
       | cons k l=>rw [hN'] at y; exact CB (hN k (by rw [hN']; exact IW)) r y
     ·exact wZ (by rw [h1.1]; exact hi.tr) hp r z
    ·have e:(oZ h mo (upN q p)).pr=some l:=e;rw [h1.2.1] at e; cases e
    ·have e:(oZ h mo (upN q p)).held=some x:=e;rw [h1.2.2] at e; cases e
theorem Ie:Hin ps hd0:=⟨λ x hx=>(by cases hx),λ l e=>(by cases e),λ x e=>(by cases e)⟩
theorem zJ:∀ (l:List (Str×Nat)),(∀ r∈l,Rok ps r)->∃ R:List HL.Row,l=R.map (λ r=>(HL.wd r.1,r.2))/\∀ r∈R,In ps r.2
 | [],_=>⟨[],rfl,λ r hr=>by cases hr⟩
 | x::r,h=>by
  obtain ⟨R,e,hR⟩:=zJ r λ y hy=>h y (IQ _ hy);obtain ⟨⟨w,hw⟩,hi⟩:=h x IW;refine ⟨(w,x.2)::R,?_,λ y hy=>?_⟩
  ·rw [IN,<- e,<- hw]
  ·rcases IY.mp hy with rfl | z
   ·exact hi
   ·exact hR y z
theorem Fr (way:Nat) {h:Hd} (ht:h.trail.length<=7) (hp:p.length<=7):(stR way h p mo).length<=20:=by
 unfold stR
 split
 ·unfold mvR
  split
  ·have:=nJ ht hp
   rw [IA];unfold wr;rw [Iy,Jv]; omega
  ·have:=ny h "move"; omega
 ·split
  ·unfold dnR
   split
   ·rw [IA];have h2:=ny (yo h p) "down"
    split
    ·have:=nJ (h:={ h with pr:=some p }) ht hp
     omega
    ·simp; omega
   ·simp
  ·unfold upR
   split
   ·simp
   ·rename_i q _;rw [IA,IA];have h1:=ny h "up";have h2:(upC h mo (upN q p)).length<=2:=by
     unfold upC
     split
     ·simp
     ·exact qW _ _ _
    have h3:=nJ (h:=oZ h mo (upN q p)) (p:=p) (by rw [(Be mo _).1]; exact ht) hp;omega
theorem G9 {c:Sc} (tn:Tn c ps) (x y:Int):∀ z∈hpth ps (vg c.geo ps (yU ps) x y),In ps z:=λ z hz=>by
 have hin:∀ q∈vg c.geo ps (yU ps) x y,In ps q:=λ q hq=>Bj (qo tn) (JS.mp hq).1;generalize vg c.geo ps (yU ps) x y=l at *;cases l with
 | nil=>cases hz
 | cons q r=>exact P_in' tn.ps q (hin q IW) hz
end
end K26
namespace K26.HL
open PySem L2 L2.PU
noncomputable def duR (c:Sc) (ps:List Nat) (r:Row):List Iw:=if r.1.val < 5 then (P ps r.2).reverse.map λ q=>.tuple [c.s q,.str (wd r.1)] else []
noncomputable def nwD (c:Sc) (h:He):Iw:=.tuple [c.s h.q,.str (wd h.w)]
theorem r0 (K:Nat) (ps:List Nat):∀ (R:List Row) (n:Nat),clX K ps (R.zipIdx n)=R.flatMap (clR K ps)
 | [],_=>rfl
 | x::r,n=>by
  rw [List.zipIdx_cons,List.flatMap_cons,<- r0 K ps r (n+1)]; rfl
theorem Hn (c:Sc) (K:Nat) (ps:List Nat) (R:List Row):(R.flatMap (clR K ps)).map (nwD c)=R.flatMap (duR c ps):=by
 rw [List.map_flatMap]
 congr 1
 funext r
 unfold clR duR
 split
 ·rw [JE]; rfl
 ·rfl
theorem EW (w:Fin 7):pIn false (.str (wd w)) wsD=some (.bool (decide (w.val < 5))):=by
 have h1:(ws.any λ y=>decide (y=w))=decide (w.val < 5):=by revert w; decide
 have h2:((ws.map λ w=>PyData.str (wd w)).any λ y=>Jh y (.str (wd w)))=decide (w.val < 5):=by
  rw [<- h1,List.any_map]
  congr 1
  funext y
  show Jh (.str (wd y)) (.str (wd w))=_;rw [show Jh (.str (wd y)) (.str (wd w))=decide (wd y=wd w) by simp [Jh,str_dec]];exact decide_eq_decide.mpr ⟨λ e=>yJ e,λ e=>by rw [e]⟩
 show (if iS (.str (wd w))=true/\(ws.map λ w=>PyData.str (wd w)).all iS=true then some (PyData.bool (if false then _ else _)) else none)=_;rw [if_pos ⟨rfl,rfl⟩,if_neg (by simp),h2]
structure Kz (c:Sc) (K:Nat):Prop where
 ev:∀ q,1<=q->Jh (c.s q) (kvD c K)=decide (q=K)
 fl:iS (kvD c K)=true
theorem Ee {c:Sc} {K:Nat} (kz:Kz c K) {l:List Nat} (hl:∀ x∈l,1<=x):pIn false (kvD c K) (c.S l)=some (.bool (decide (K∈l))):=by
 have h2:((l.map c.s).any λ y=>Jh y (kvD c K))=decide (K∈l):=by
  rw [List.any_map,Kw,JZ,decide_eq_true_iff]
  constructor
  ·intro ⟨x,hx,e⟩;have e:Jh (c.s x) (kvD c K)=true:=e;rw [kz.ev x (hl x hx),decide_eq_true_iff] at e;rw [<- e]; exact hx
  ·intro h;refine ⟨K,h,?_⟩;show Jh (c.s K) (kvD c K)=true;rw [kz.ev K (hl K h)]; simp
 show (if iS (kvD c K)=true/\(l.map c.s).all iS=true then some (PyData.bool (if false then _ else _)) else none)=_;rw [if_pos ⟨kz.fl,by rw [List.all_map,List.all_eq_true]; intro x _; rfl⟩,if_neg (by simp),h2]
noncomputable abbrev E9 (sc:D) (c:Sc) (K L:Nat) (x5 x6 x7:Option D) (n:Nat) (R:List Row) (x10 x11 x12 x13 x14 x15 x16 x17:Option D):MEn:=[some sc,some (.d c.d),some (.d wsD),some (.r L),some (.d (kvD c K)),x5,x6,x7,some (.r n),some (.d (.list (R.map (mH c)))),x10,x11,x12,x13,x14,x15,x16,x17]
section
variable {s:Sto} {K L n:Nat} {c:Sc} {ps:List Nat} {sc:D} {x5 x6 x7 x10 x11 x12 x13 x14 x15 x16 x17:Option D} {R:List Row}
noncomputable abbrev E2:Wd->Option MOut:=(mIf (tPv (bT (l2 (pIn false) (eV 7) (eV 2)))) (dP 14 (mP (l2 aW (eV 14) (oE (bj [none,some 7] (lI asL (l2 pRv (lA (aq 13) (aC (eV 1) (aC (eV 15) aN))) (l1 xU (eC (.int 1))))) (tgN 0) cy (lA (λ ds=>if ds.length<=IB then some (.tuple ds) else none) (aC (eV 0) (aC (eV 1) aN)))))))) mNx)
theorem Cs (tr:Tn c ps):∀ (R:List Row),(∀ r∈R,In ps r.2)->(R.flatMap (duR c ps)).length<=7*R.length
 | [],_=>by simp
 | x::r,h=>by
  have h2:=Cs tr r λ y hy=>h y (IQ _ hy);have h1:(duR c ps x).length<=7:=by
   unfold duR
   split
   ·rw [Iy,Jr]; exact P_7 (qo tr) (h x IW)
   ·simp
  rw [List.flatMap_cons,IA,IX];omega
theorem Gc (tr:Tn c ps) (hR:∀ r∈R,In ps r.2) (lR:R.length<=1000) :
  ∃ y7 y15,oV [7,15] (iPu (lI asL (eV 9))) (tgT (aO (tgN 7) (aO (tgN 15) gi))) E2 ⟨E9 sc c K L x5 x6 x7 n R x10 x11 x12 x13 (some (.d (.list []))) x15 x16 x17,s⟩=some (.nx ⟨E9 sc c K L x5 x6 y7 n R x10 x11 x12 x13 (some (.d (.list (R.flatMap (duR c ps))))) y15 x16 x17,s⟩):=by
 obtain ⟨w',e1,y7,y15,rfl⟩:=lJ (ks:=[7,15]) (t:=tgT (aO (tgN 7) (aO (tgN 15) gi))) (body:=E2) (mH c) (λ done w1=>∃ y7 y15,w1=⟨E9 sc c K L x5 x6 y7 n R x10 x11 x12 x13 (some (.d (.list (done.flatMap (duR c ps))))) y15 x16 x17,s⟩) R
  (w:=⟨E9 sc c K L x5 x6 x7 n R x10 x11 x12 x13 (some (.d (.list []))) x15 x16 x17,s⟩)
  (λ done x rest w1 e ⟨y7,y15,ew⟩=>by
   subst ew;have hin:In ps x.2:=hR x (by rw [e]; simp);have l7:=P_7 (qo tr) hin;have ld:done.length<=1000:=by
    have:=congrArg List.length e
    rw [IA] at this;omega
   have dl:=Cs tr done λ r hr=>hR r (by rw [e]; exact JL _ hr);have ea:(done++[x]).flatMap (duR c ps)=done.flatMap (duR c ps)++duR c ps x:=by rw [KH]; simp
   refine ⟨⟨E9 sc c K L x5 x6 (some (.d (.str (wd x.1)))) n R x10 x11 x12 x13 (some (.d (.list (done.flatMap (duR c ps))))) (some (.d (c.s x.2))) x16 x17,s⟩,?_⟩;by_cases h5:x.1.val < 5
   ·refine ⟨_,rfl,qR (s:=s) (dH (cA (ai (x:=.str (wd x.1)) (y:=wsD) rfl rfl (by rw [EW,decide_eq_true h5])))) (aS (d:=.d (.list (done.flatMap (duR c ps)++duR c ps x))) (ar ?_)),_,_,by rw [ea]; rfl⟩;have ex:duR c ps x=(P ps x.2).reverse.map λ q=>.tuple [c.s q,.str (wd x.1)]:=if_pos h5;refine ai (x:=.list (done.flatMap (duR c ps))) (y:=.list (duR c ps x)) rfl (eE ?_) (zw (by rw [ex,Iy,Jr]; omega));refine fH (ds:=(P ps x.2).reverse.map c.s) (jK (ai (aR (ae rfl (ae rfl rfl)) (sW (qo tr) hin)) rfl (z:=c.S (P ps x.2).reverse) ?_) rfl) (by rw [Iy,Jr]; omega) ?_
    ·show (asI (.int (-1))).bind (λ k=>if k=-1 then some (PyData.list ((P ps x.2).map c.s).reverse) else none)=_;rw [<- Kr]; rfl
    ·rw [ex];exact i9 (η:=[.un,.val (.str (wd x.1))]) c.s (λ q=>.tuple [c.s q,.str (wd x.1)]) (P ps x.2).reverse λ q _=>⟨[.val (c.s q),.val (.str (wd x.1))],rfl,aR (ae rfl (ae rfl rfl)) (dR (by simp))⟩
   ·refine ⟨_,rfl,rO (s:=s) (dH (cA (ai (x:=.str (wd x.1)) (y:=wsD) rfl rfl (by rw [EW,decide_eq_false h5])))),some (.d (.str (wd x.1))),some (.d (c.s x.2)),?_⟩;rw [ea,show duR c ps x=[] from if_neg h5,JB])
  ⟨x7,x15,rfl⟩
 exact ⟨y7,y15,kC (pK (jK rfl rfl)) e1⟩
end
theorem shL {ds:List Iw} (h1:JA ds=true) (h2:JD ds<=1):Jo (.list ds)=true:=by
 have h3:JD ds=0\/JD ds=1:=by omega
 rcases h3 with h3 | h3
 ·simp [Jo,Jw,PyData.depth,h1,h3]
 ·simp [Jo,Jw,PyData.depth,h1,h3]
theorem Ev {ι:Type} (f:ι->Iw) (h:∀ x,Jw (f x)=true/\PyData.depth (f x)<=1):∀ l:List ι,JA (l.map f)=true/\JD (l.map f)<=1
 | []=>⟨rfl,by simp [JD]⟩
 | x::l=>by
  obtain ⟨h1,h2⟩:=Ev f h l;obtain ⟨h3,h4⟩:=h x;refine ⟨?_,?_⟩
  ·simp [JA,h1,h3]
  ·rw [IN];unfold JD;omega
theorem ES {c:Sc} (h:c.Ok) (l:List He):Jo (.list (l.map (nwD c)))=true:=by
 obtain ⟨h1,h2⟩:=Ev (nwD c) (λ x=>⟨by simp [nwD,Sc.s,JA,Jw,h.ok,xC],by simp [nwD,Sc.s,JD,PyData.depth]⟩) l;exact shL h1 h2
theorem rw_sh {c:Sc} (h:c.Ok) (l:List He):Jo (.list (l.map (rwD c)))=true:=by
 obtain ⟨h1,h2⟩:=Ev (rwD c) (λ x=>⟨by simp [rwD,Sc.s,JA,Jw,h.ok,xC],by simp [rwD,Sc.s,JD,PyData.depth]⟩) l;exact shL h1 h2
theorem G5 (l:List Nat):Jo (.list (l.map λ i:Nat=>.int (i:Int)))=true:=by
 obtain ⟨h1,h2⟩:=Ev (λ i:Nat=>Jm (i:Int)) (λ x=>⟨rfl,by simp [PyData.depth]⟩) l;exact shL h1 h2
section
variable {s:Sto} {K L n a1 a b m:Nat} {c:Sc} {ps:List Nat} {sc:D} {x5 x6 x7 x10 x11 x12 x13 x14 x15 x16 x17:Option D} {R:List Row}
theorem Ep (K:Nat) (ps:List Nat) (R:List Row):∀ h∈R.flatMap (clR K ps),h.d=false:=λ h hh=>by
 obtain ⟨r,_,hr⟩:=List.mem_flatMap.mp hh;unfold clR at hr;split at hr
 ·obtain ⟨q,_,rfl⟩:=JP.mp hr;rfl
 ·cases hr
theorem Ij (ok:c.Ok) {C:List He} (hC:∀ h∈C,h.d=false) (lC:C.length<=100000) :
  tPv (bOr (bT (l2 pNe (oE (bj [none] (lI asL (eV 12)) (tgN 0) cy (lA (λ ds=>if ds.length<=IB then some (.tuple ds) else none) (aC (l2 pIx (eV 0) (eC (.int 1))) (aC (l2 pIx (eV 0) (eC (.int 2))) aN))))) (eV 14))) (bT (l2 pNe (oE (bj [none] (lI asL (eV 12)) (tgN 0) (bT (l2 pIx (eV 0) (eC (.int 3)))) (eV 0))) (oE (λ η=>(aN η).bind gL))))) ⟨E9 sc c K L x5 x6 x7 n R x10 x11 (some (.d (.list (C.map (rwD c))))) x13 (some (.d (.list (C.map (nwD c))))) x15 x16 x17,s⟩=some (false,s):=by
 refine dH (Gf (cA (ai (x:=.list (C.map (nwD c))) (y:=.list (C.map (nwD c))) (eE ?_) rfl (uQ (ES ok C)))) (cA (ai (x:=.list []) (y:=.list []) (eE ?_) (eE (cG rfl (iR (by simp)))) (uQ (ES ok [])))))
 ·refine fH (ds:=C.map (rwD c)) (jK rfl rfl) (by rw [Iy]; omega) ?_;exact i9 (η:=[.un]) (rwD c) (nwD c) C λ x _=>⟨[.val (rwD c x)],rfl,aR (ae (ai rfl rfl rfl) (ae (ai rfl rfl rfl) rfl)) (dR (by simp))⟩
 ·refine fH (ds:=C.map (rwD c)) (jK rfl rfl) (by rw [Iy]; omega) ?_;refine (ji (η:=[.un]) (rwD c) (λ _=>false) (rwD c) C λ x hx=>⟨[.val (rwD c x)],rfl,cA (ai (x:=rwD c x) (y:=.int 3) rfl rfl (by show some (PyData.bool x.d)=_; rw [hC x hx])),λ h=>by cases h⟩).trans ?_
  simp
theorem Ii (tr:Tn c ps) (kz:Kz c K) (hR:∀ r∈R,In ps r.2) (lR:R.length<=1000) :
  tPv (bT (l2 pNe (eV 13) (oE (bj [none,none,some 1,some 4] (λ η=>((aC (eV 9) aN) η).bind enL) (tgT (aO (tgN 0) (aO (tgN 1) gi))) (v4 (bT (l2 pEq (l2 pIx (eV 1) (eC (.int 0))) (eC (.str "move")))) (bT (l2 (pIn false) (eV 3) (lA (aq 13) (aC (eV 2) (aC (l2 pIx (eV 1) (eC (.int 1))) aN)))))) (eV 0))))) ⟨E9 sc c K L x5 x6 x7 n R x10 x11 x12 (some (.d (.list ((kpX K ps R.zipIdx).map λ i:Nat=>.int (i:Int))))) x14 x15 x16 x17,s⟩=some (false,s):=by
 refine dH (cA (ai (x:=.list ((kpX K ps R.zipIdx).map λ i:Nat=>.int (i:Int))) (y:=.list ((kpX K ps R.zipIdx).map λ i:Nat=>.int (i:Int))) rfl (eE ?_) (uQ (G5 _))));refine fH (ds:=R.zipIdx.map (eRw c)) (by show some (kS (R.map (mH c)) 0)=_; rw [xg]) (by rw [Iy,Kj]; omega) ?_;have hz:∀ x∈R.zipIdx,In ps x.1.2:=λ x hx=>hR _ (J3 hx);unfold kpX;rw [JE];refine ji (η:=[.un,.un,.val c.d,.val (kvD c K)]) (eRw c) (λ x=>kpR K ps x.1) (λ x=>.int (x.2:Int)) R.zipIdx λ x hx=>⟨[.val (.int (x.2:Int)),.val (mH c x.1),.val c.d,.val (kvD c K)],rfl,?_,λ _=>rfl⟩;have hin:=hz x hx;refine Es (cA (ai (x:=.str (wd x.1.1)) (y:=.str "move") (ai rfl rfl rfl) rfl (EG x.1.1))) (cA (ai (x:=kvD c K) (y:=c.S (P ps x.1.2)) rfl (aR (ae rfl (ae (ai rfl rfl rfl) rfl)) (sW (qo tr) hin)) (Ee kz λ y hy=>(P_in' tr.ps _ hin hy).1)))
theorem Ad {η:MEn} {a1 a:Nat} (hη:η[3]?=some (some (.r L))) (hL:s[L]?=some (.lst [.r a1,.r a])):t7 (mV 3) (mP (eC (.int 1))) ⟨η,s⟩=some (.r a,s):=by
 have h1:mV 3 ⟨η,s⟩=some (.r L,s):=by
  unfold mV;dsimp only;rw [hη]
 unfold t7;rw [h1,Ix,show mP (eC (.int 1)) ⟨η,s⟩=some (.d (.int 1),s) from ar rfl,Ix];dsimp only;rw [hL]; rfl
noncomputable abbrev sBd:Wd->Option MOut:=(dP 16 (mOp aW (mP (eV 16)) (mOp pIx (qw eP (maC (t7 (mV 3) (mP (eC (.int 1)))) (maC (mP (oE (λ η=>((aC (eV 17) aN) η).bind gL))) maN))) (mP (eC (.int 0))))))
theorem Ax (tr:Tn c ps) (hL:s[L]?=some (.lst [.r a1,.r a])) (P0:Hl s a b c (hrs K ps.length) m) (hR:∀ r∈R,In ps r.2) (lR:R.length<=1000) :
  ∃ s' y17,oV [17] (iPu (lI asL (eV 9))) (tgN 17) sBd ⟨E9 sc c K L x5 x6 x7 n R x10 x11 x12 x13 x14 x15 (some (.d (.list []))) x17,s⟩=some (.nx ⟨E9 sc c K L x5 x6 x7 n R x10 x11 x12 x13 x14 x15 (some (.d (.list ((R.flatMap (clR K ps)).map (rwD c))))) y17,s'⟩)/\∀ i,i < s.length->s'[i]?=s[i]?:=by
 have lL:=gy hL;have la:=gy P0.ob;have lb:=gy P0.dc;obtain ⟨w',e1,s',y17,rfl,e3⟩:=lJ (ks:=[17]) (t:=tgN 17) (body:=sBd) (mH c) (λ done w1=>∃ s1 y17,w1=⟨E9 sc c K L x5 x6 x7 n R x10 x11 x12 x13 x14 x15 (some (.d (.list ((done.flatMap (clR K ps)).map (rwD c))))) y17,s1⟩/\∀ i,i < s.length->s1[i]?=s[i]?) R
  (w:=⟨E9 sc c K L x5 x6 x7 n R x10 x11 x12 x13 x14 x15 (some (.d (.list []))) x17,s⟩)
  (λ done x rest w1 e ⟨s1,y17,ew,f1⟩=>by
   subst ew;have hin:In ps x.2:=hR x (by rw [e]; simp);have ld:done.length<=1000:=by
    have:=congrArg List.length e
    rw [IA] at this;omega
   have dl:=uv (K:=K) tr done.zipIdx λ y hy=>hR _ (by rw [e]; exact JL _ (J3 hy));rw [r0,Kj] at dl;have xl:=xk (K:=K) tr hin;have P1:Hl s1 a b c (hrs K ps.length) m:=⟨by rw [f1 a la]; exact P0.ob,by rw [f1 b lb]; exact P0.dc⟩;obtain ⟨s2,h1,h2⟩:=tj P1 tr [x] (λ r hr=>by rw [Jc.mp hr]; exact hin) (by simp);have l1:s.length<=s1.length:=by
    have h:=gy (show s1[s.length - 1]?=some s[s.length - 1] by rw [f1 _ (by omega),Jb (by omega)]);omega
   rw [r0] at h1;have ea:(done++[x]).flatMap (clR K ps)=done.flatMap (clR K ps)++[x].flatMap (clR K ps):=KH;have e1x:[x].flatMap (clR K ps)=clR K ps x:=by simp
   rw [e1x] at ea h1;refine ⟨⟨E9 sc c K L x5 x6 x7 n R x10 x11 x12 x13 x14 x15 (some (.d (.list ((done.flatMap (clR K ps)).map (rwD c))))) (some (.d (mH c x))),s1⟩,⟨E9 sc c K L x5 x6 x7 n R x10 x11 x12 x13 x14 x15 (some (.d (.list (((done++[x]).flatMap (clR K ps)).map (rwD c))))) (some (.d (mH c x))),s2⟩,pz (by show 17 < 18; decide),?_,s2,_,rfl,λ i hi=>by rw [h2 i (by omega)]; exact f1 i hi⟩;have k1:=rP (fn:=eP) (fs:=maC (t7 (mV 3) (mP (eC (.int 1)))) (maC (mP (oE (λ η=>((aC (eV 17) aN) η).bind gL))) maN)) (w:=⟨E9 sc c K L x5 x6 x7 n R x10 x11 x12 x13 x14 x15 (some (.d (.list ((done.flatMap (clR K ps)).map (rwD c))))) (some (.d (mH c x))),s1⟩) (aD (Ad rfl (by rw [f1 L lL]; exact hL)) (aD (ar (eE (cG (ae rfl rfl) (iR (by simp))))) bD)) h1;have k2:=sG (o:=pIx) (g:=mP (eC (.int 0))) (z:=.list ((clR K ps x).map (rwD c))) k1 (ar rfl) rfl rfl rfl;refine aS (sG (ar rfl) k2 rfl rfl ?_);rw [zw (by rw [Iy,Iy]; omega),ea,Js])
  ⟨s,x17,rfl,λ _ _=>rfl⟩
 exact ⟨s',y17,kC (pK (jK rfl rfl)) e1,e3⟩
theorem F9 (tr:Tn c ps) (hL:s[L]?=some (.lst [.r a1,.r a])) (P0:Hl s a b c (hrs K ps.length) m) {C:List He} :
  ∃ s',kj (DX (mP (l2 pEq (eV 16) (eV 12))) (AN pEq (qw eP (maC (t7 (mV 3) (mP (eC (.int 1)))) (maC (mP (oE (λ η=>(aN η).bind gL))) maN))) (mP (lA (λ ds=>if ds.length<=IB then some (.tuple ds) else none) (aC (oE (λ η=>(aN η).bind gL)) (aC (oE (λ η=>(aN η).bind gL)) aN)))))) ⟨E9 sc c K L x5 x6 x7 n R x10 x11 (some (.d (.list (C.map (rwD c))))) x13 x14 x15 (some (.d (.list (C.map (rwD c))))) x17,s⟩=some (.rt (.d (.bool true)) s'):=by
 obtain ⟨s2,h1,h2⟩:=tj P0 tr [] (λ r hr=>by cases hr) (by simp);refine ⟨s2,dC ?_⟩;have k0:mP (l2 pEq (eV 16) (eV 12)) ⟨E9 sc c K L x5 x6 x7 n R x10 x11 (some (.d (.list (C.map (rwD c))))) x13 x14 x15 (some (.d (.list (C.map (rwD c))))) x17,s⟩=some (.d (.bool true),s):=ar (ai rfl rfl (BR (rw_sh tr.ok C)));have k1:=rP (fn:=eP) (fs:=maC (t7 (mV 3) (mP (eC (.int 1)))) (maC (mP (oE (λ η=>(aN η).bind gL))) maN)) (w:=⟨E9 sc c K L x5 x6 x7 n R x10 x11 (some (.d (.list (C.map (rwD c))))) x13 x14 x15 (some (.d (.list (C.map (rwD c))))) x17,s⟩) (aD (Ad rfl hL) (aD (ar (eE (cG rfl (iR (by simp))))) bD)) h1;have k3:mP (lA (λ ds=>if ds.length<=IB then some (.tuple ds) else none) (aC (oE (λ η=>(aN η).bind gL)) (aC (oE (λ η=>(aN η).bind gL)) aN))) ⟨E9 sc c K L x5 x6 x7 n R x10 x11 (some (.d (.list (C.map (rwD c))))) x13 x14 x15 (some (.d (.list (C.map (rwD c))))) x17,s2⟩=some (.d (.tuple [.list [],.list []]),s2):=ar (aR (ae (eE (cG rfl (iR (by simp)))) (ae (eE (cG rfl (iR (by simp)))) rfl)) (dR (by simp)));unfold DX;rw [k0,Ix];show (some true).bind _=_;rw [Ix,if_pos rfl];unfold AN;rw [k1,Ix,k3,Ix];rfl
end
theorem FO (t:Nat):∀ q,nmT t q≠("zz" : Str):=λ q e=>by
 have h2:("zz" : Str).cps.size=2:=by decide
 rw [<- e] at h2;cases q with
 | zero=>have:("" : Str).cps.size=2:=h2; rw [vp] at this; cases this
 | succ j =>
  by_cases h:j < 8
  ·rw [sB h] at h2; simp at h2
  ·rw [y4 h] at h2; simp at h2; omega
theorem G4 {c:Sc} (ok:c.Ok) (hz:∀ q,c.nm q≠("zz" : Str)) (K:Nat):Kz c K/\Ky c K:=by
 by_cases h:K=0
 ·subst h;have e:kvD c 0=.str "zz" := rfl;have ev:∀ q,decide (c.nm q=("zz" : Str))=false:=λ q=>decide_eq_false (hz q);refine ⟨⟨λ q hq=>?_,rfl⟩,⟨λ q hq=>?_⟩⟩
  ·rw [e];rw [show Jh (c.s q) (.str "zz")=decide (c.nm q=("zz" : Str)) by simp [Sc.s,Jh,str_dec],ev,decide_eq_false (by omega)]
  ·rw [e];unfold Sc.s;rw [um (ok.ok q) (by decide +kernel),ev,decide_eq_false (by omega)]
 ·have e:kvD c K=c.s K:=if_neg h;refine ⟨⟨λ q hq=>?_,by rw [e]; rfl⟩,⟨λ q hq=>?_⟩⟩
  ·rw [e]; exact EZ ok q K
  ·rw [e]; exact ok.eqs q K
theorem D8 {c:Sc} {ps:List Nat} (tr:Tn c ps) {K:Nat} (hK:K<=ps.length):pIx (.list (.str "zz" :: (stF ps).map λ x=>c.s x.1)) (.int (K:Int))=some (kvD c K):=by
 have hg:(PyData.str "zz" :: (stF ps).map λ x=>c.s x.1)[K]?=some (kvD c K):=by
  cases K with
  | zero=>rfl
  | succ j =>
   rw [List.getElem?_cons_succ,IP];unfold stF;rw [IP,J7 (by omega)];rfl
 exact uy hg
theorem yj {i L:Nat} {body:Wd->Option MOut} {n k:Nat} {w w2:Wd} {ds:List D} {d:D} (h:w.s[L]?=some (.lst ds)) (hd:ds[k]?=some d) (hb:body ⟨w.η.set i (some d),w.s⟩=some (.nx w2)):sH i L body (n+1) k w=sH i L body n (k+1) w2:=by
 rw [sH,h];dsimp only;rw [hd];dsimp only;rw [hb]; rfl
theorem Ef {i L:Nat} {body:Wd->Option MOut} {n k:Nat} {w:Wd} {ds:List D} (h:w.s[L]?=some (.lst ds)) (hd:ds[k]?=none):sH i L body (n+1) k w=some (.nx w):=by
 rw [sH,h];dsimp only;rw [hd]
section
variable {K:Nat} {c:Sc} {ps:List Nat} {sc:D}
noncomputable def S5 (c:Sc):Sto:=[.obj 3 (hf c 1 0),.dct [],.obj 3 (hf c 3 0),.dct [],.lst [.r 0,.r 2]]
theorem fill (ky:Ky c K) (tr:Tn c ps):∃ s' y5 y6 y7,B5 5 9 (mV 3) hb3 ⟨E6 sc c K 4 none none none,S5 c⟩=some (.nx ⟨E6 sc c K 4 y5 y6 y7,s'⟩)/\Hl s' 0 1 c (hrs K ps.length) (5*ps.length)/\Hl s' 2 3 c (hrs K ps.length) (5*ps.length)/\s'[4]?=some (.lst [.r 0,.r 2]):=by
 obtain ⟨s1,y6,y7,h1,P1,f1⟩:=EX (sc:=sc) (L:=4) (s:=S5 c) (a:=0) (b:=1) ky tr ⟨rfl,rfl⟩ none none;obtain ⟨s2,z6,z7,h2,P2,f2⟩:=EX (sc:=sc) (L:=4) (s:=s1) (a:=2) (b:=3) ky tr ⟨by rw [f1 2 (by decide) (by decide)]; rfl,by rw [f1 3 (by decide) (by decide)]; rfl⟩ y6 y7;have e1:s1[4]?=some (.lst [.r 0,.r 2]):=by rw [f1 4 (by decide) (by decide)]; rfl
 have e2:s2[4]?=some (.lst [.r 0,.r 2]):=by rw [f2 4 (by decide) (by decide)]; exact e1
 refine ⟨s2,some (.r 2),z6,z7,?_,⟨by rw [f2 0 (by decide) (by decide)]; exact P1.ob,by rw [f2 1 (by decide) (by decide)]; exact P1.dc⟩,P2,e2⟩;show sH 5 4 hb3 9 0 ⟨E6 sc c K 4 none none none,S5 c⟩=_;rw [yj (ds:=[.r 0,.r 2]) (d:=.r 0) rfl rfl h1,yj (ds:=[.r 0,.r 2]) (d:=.r 2) e1 rfl h2,Ef (ds:=[.r 0,.r 2]) e2 rfl]
end
noncomputable abbrev aBd:Wd->Option MOut:=(bb (dP 11 (mP (l2 vO (lA al (aC (eV 0) (aC (l2 aW (eC (.int 200)) (l2 mI (eC (.int 3)) (eV 10))) (aC (eC (.int 9)) aN)))) (eC (.int 1)))))
  (dP 9 (mOp aW (mP (eV 9)) (qw cn (maC (mV 8) (maC (mP (l2 pIx (oE (λ η=>((aC (eC (.int 0)) (aC (eC (.int 1)) (aC (eC (.int 0)) (aC (eC (.int 2)) aN)))) η).bind gL)) (eV 10))) (maC (mP (eC (.int 0))) (maC (mP (eV 10)) (maC (mP (eV 11)) (maC (mP (l2 vO (lA al (aC (eV 0) (aC (l2 aW (eC (.int 201)) (l2 mI (eC (.int 3)) (eV 10))) (aC (eC (.int 9)) aN)))) (eC (.int 1)))) maN))))))))))
noncomputable abbrev E8 (sc:D) (c:Sc) (K L:Nat) (x5 x6 x7:Option D) (n:Nat) (l:List (Str×Nat)) (x10 x11:Option D):MEn:=[some sc,some (.d c.d),some (.d wsD),some (.r L),some (.d (kvD c K)),x5,x6,x7,some (.r n),some (.d (Rw c l)),x10,x11,none,none,none,none,none,none]
structure Hs (c:Sc) (ps:List Nat) (s0 s:Sto) (n kd:Nat) (k:Nat) (l:List (Str×Nat)) (kvs:List (Key×D)) (Kh:Int->Hd):Prop where
 ho:HOk c s n kd kvs Kh
 hin:∀ j,Hin ps (Kh j)
 ow:∀ i,Own n kd kvs i->s0.length<=i
 kp:∀ i,i < s0.length->s[i]?=s0[i]?
 ln:s0.length<=s.length
 kl:kvs.length<=k
 rk:∀ r∈l,Rok ps r
 ll:l.length<=20*k
section
variable {K L:Nat} {c:Sc} {ps:List Nat} {ns:List Int} {x5 x6 x7:Option D} {n kd:Nat} {s0:Sto}
theorem HD:∀ k:Nat,k < 4->∃ way:Nat,way < 3/\pIx (.list [.int 0,.int 1,.int 0,.int 2]) (.int (0+(k:Int)))=some (.int ((way:Nat):Int))
 | 0,_=>⟨0,by decide,rfl⟩
 | 1,_=>⟨1,by decide,rfl⟩
 | 2,_=>⟨0,by decide,rfl⟩
 | 3,_=>⟨2,by decide,rfl⟩
theorem Cm (tr:Tn c ps) (hn:ns.length<=63) {s:Sto} (H0:Hs c ps s0 s n kd 0 [] [] (λ _=>hd0)) :
  ∃ s' y10 y11 l kvs Kh,oV [10] (iPu (λ η=>((aC (eC (.int 4)) aN) η).bind rng1)) (tgN 10) aBd ⟨E8 (.d (Sd ns)) c K L x5 x6 x7 n [] none none,s⟩=some (.nx ⟨E8 (.d (Sd ns)) c K L x5 x6 x7 n l y10 y11,s'⟩)/\Hs c ps s0 s' n kd 4 l kvs Kh:=by
 obtain ⟨w',e1,s',y10,y11,l,kvs,Kh,rfl,e3⟩:=lJ (ks:=[10]) (t:=tgN 10) (body:=aBd) (λ (k:Nat)=>Jm (0+(k:Nat))) (λ done w1=>∃ s1 y10 y11 l kvs Kh,w1=⟨E8 (.d (Sd ns)) c K L x5 x6 x7 n l y10 y11,s1⟩/\Hs c ps s0 s1 n kd done.length l kvs Kh) (List.range 4)
  (w:=⟨E8 (.d (Sd ns)) c K L x5 x6 x7 n [] none none,s⟩)
  (λ done k rest w1 e ⟨s1,y10,y11,l,kvs,Kh,ew,H⟩=>by
   subst ew;have hd:done.length < 4:=by
    have:=congrArg List.length e
    rw [IA,IX,JT] at this;omega
   have hk:k < 4:=J0.mp (by rw [e]; simp);obtain ⟨way,hw,ew⟩:=HD k hk;obtain ⟨r1,_,d1⟩:=jT hn (k:=200+3*(0+(k:Int))) (m:=9) (by omega) (by decide);obtain ⟨r2,_,d2⟩:=jT hn (k:=201+3*(0+(k:Int))) (m:=9) (by omega) (by decide);have hp:=Ip (qo tr) ((r1:Int) - 1) ((r2:Int) - 1);have hpi:=G9 tr ((r1:Int) - 1) ((r2:Int) - 1);generalize hpth ps (vg c.geo ps (yU ps) ((r1:Int) - 1) ((r2:Int) - 1))=p at hp hpi;have kl:=H.kl;have ll:=H.ll;obtain ⟨s2,kvs2,f1,f2,f3,f4⟩:=HC tr.ok H.ho (by omega) hw 0 (mo:=0+(k:Int)) hp.1 hp.2;have hst:=GK (mo:=0+(k:Int)) way (H.hin 0) hpi;have hln:=Fr (mo:=0+(k:Int)) way (H.ho.bd 0).1 hp.2;refine ⟨⟨E8 (.d (Sd ns)) c K L x5 x6 x7 n l (some (.d (.int (0+(k:Int))))) y11,s1⟩,⟨E8 (.d (Sd ns)) c K L x5 x6 x7 n (l++stR way (Kh 0) p (0+(k:Int))) (some (.d (.int (0+(k:Int))))) (some (.d (.int ((r1:Int) - 1)))),s2⟩,pz (by show 10 < 18; decide),?_,s2,_,_,_,kvs2,upK Kh 0 (stH way (Kh 0) p (0+(k:Int))),rfl,?_⟩
   ·refine ah (w1:=⟨E8 (.d (Sd ns)) c K L x5 x6 x7 n l (some (.d (.int (0+(k:Int))))) (some (.d (.int ((r1:Int) - 1)))),s1⟩) (aS (ar (ai (aR (ae rfl (ae (ai rfl (ai rfl rfl (lF (xY (by decide) (by decide)))) rfl) (ae rfl rfl))) d1) rfl rfl))) ?_;have k1:=rP (fn:=cn) (w:=⟨E8 (.d (Sd ns)) c K L x5 x6 x7 n l (some (.d (.int (0+(k:Int))))) (some (.d (.int ((r1:Int) - 1)))),s1⟩) (fs:=maC (mV 8) (maC (mP (l2 pIx (oE (λ η=>((aC (eC (.int 0)) (aC (eC (.int 1)) (aC (eC (.int 0)) (aC (eC (.int 2)) aN)))) η).bind gL)) (eV 10))) (maC (mP (eC (.int 0))) (maC (mP (eV 10)) (maC (mP (eV 11)) (maC (mP (l2 vO (lA al (aC (eV 0) (aC (l2 aW (eC (.int 201)) (l2 mI (eC (.int 3)) (eV 10))) (aC (eC (.int 9)) aN)))) (eC (.int 1)))) maN)))))) (aD rfl (aD (ar (ai (eE (cG (ae rfl (ae rfl (ae rfl (ae rfl rfl)))) (iR (by simp)))) rfl ew)) (aD (ar rfl) (aD (ar rfl) (aD (ar rfl) (aD (ar (ai (aR (ae rfl (ae (ai rfl (ai rfl rfl (lF (xY (by decide) (by decide)))) rfl) (ae rfl rfl))) d2) rfl rfl)) bD)))))) f1;refine aS (sG (ar rfl) k1 rfl rfl ?_);unfold Rw;rw [zw (by rw [Iy,Iy]; omega),Js]
   ·have ow2:∀ i,Own n kd kvs2 i->s0.length<=i:=λ i hi=>by
     rcases f3.ow i hi with z | z
     ·exact H.ow i z
     ·exact Jd H.ln z
    refine ⟨f2,λ j=>?_,ow2,λ i hi=>?_,Jd H.ln f3.len,?_,λ r hr=>?_,?_⟩
    ·unfold upK
     split
     ·exact hst.2
     ·exact H.hin j
    ·rw [f3.kp i (IV hi H.ln) λ ho=>by have:=H.ow i ho; omega];exact H.kp i hi
    ·rw [IA,Kb]; omega
    ·rcases JF.mp hr with z | z
     ·exact H.rk r z
     ·exact hst.1 r z
    ·rw [IA,IA,Kb]; omega)
  ⟨s,none,none,[],[],λ _=>hd0,rfl,H0⟩
 exact ⟨s',y10,y11,l,kvs,Kh,kC (pK (cG (ae rfl rfl) (wI (by decide) (by decide)))) e1,e3⟩
end
end K26.HL
namespace K26
open PySem L2 L2.PU HL
theorem Ch {s:Sto} {L a a1:Nat} {η:MEn} (hη:η[3]?=some (some (.r L))) (hL:s[L]?=some (.lst [.r a,.r a1])):t7 (mV 3) (mP (eC (.int 0))) ⟨η,s⟩=some (.r a,s):=by
 have h1:mV 3 ⟨η,s⟩=some (.r L,s):=by
  unfold mV;dsimp only;rw [hη]
 unfold t7;rw [h1,Ix,show mP (eC (.int 0)) ⟨η,s⟩=some (.d (.int 0),s) from ar rfl,Ix];dsimp only;rw [hL]; rfl
theorem DP {fs:MFs} {w:Wd} {ds:List D} {s:Sto} (h:fs w=some (ds,s)) (hl:ds.length<=3000000):DQ fs w=some (.r s.length,s++[.lst ds]):=by
 unfold DQ;rw [h,Ix,if_pos (big hl)]
theorem main:∀ ns:List Int,ns.length<=63->∃ s',p4 [.d (.list (ns.map Jm))] []=some (.d (.bool true),s'):=λ ns hn=>by
 obtain ⟨d,tn,hd,hnm,hlen,es⟩:=Bp hn (a0:=0) (by decide);obtain ⟨okc,okp⟩:=Dr.tr hd hlen;have tr:Tn d.sc d.ps:=⟨okc,rfl,okp⟩;have hz:∀ q,d.sc.nm q≠("zz" : Str):=λ q=>by
  show d.nm q≠_;rw [hnm]; exact FO tn q
 rw [<- Dr.sc_d d] at es;generalize d.sc=c at *;generalize d.ps=ps at *;obtain ⟨K,hK,dK⟩:=jT hn (k:=100) (m:=(ps.length:Int)+1) (by decide) (by omega);obtain ⟨kz,ky⟩:=G4 okc hz K;have hK:K<=ps.length:=by omega
 have el:c.st.length=ps.length:=by rw [tr.st]; unfold stF; rw [Iy,JT]
 obtain ⟨s1,y5,y6,y7,hf1,P1,P2,hL⟩:=fill (sc:=.d (Sd ns)) ky tr;have H0:Hs c ps s1 (s1++[.obj 1 (nf c (s1.length+1)),.dct []]) s1.length (s1.length+1) 0 [] [] (λ _=>hd0):=by
  refine ⟨⟨?_,?_,λ _ _=>rfl,λ j d h=>(by cases h),λ j j' m h=>(by cases h),λ _=>⟨by simp [hd0],λ q e=>(by cases e)⟩,⟨[],rfl,List.nodup_nil⟩⟩,λ _=>Ie,λ i hi=>?_,λ i hi=>IC hi,by rw [IA]; omega,by simp,λ r hr=>(by cases hr),by simp⟩
  ·rw [IJ (IF _),Jq]; rfl
  ·rw [IJ (by omega),Nat.add_sub_cancel_left]; rfl
  ·rcases hi with rfl | rfl | ⟨j,hj⟩
   ·exact IF _
   ·omega
   ·cases hj
 obtain ⟨s2,y10,y11,l,kvs,Kh,hh,H2⟩:=Cm (K:=K) (L:=4) (x5:=y5) (x6:=y6) (x7:=y7) tr hn H0;obtain ⟨R,eR,hR⟩:=zJ l H2.rk;have lR:R.length<=1000:=by
  have:=H2.ll
  rw [eR,Iy] at this;omega
 have eRw:Rw c l=.list (R.map (mH c)):=by
  rw [eR];unfold Rw;rw [JE]; rfl
 have ln1:4 < s1.length:=gy hL;have A1:Hl s2 0 1 c (hrs K ps.length) (5*ps.length):=⟨by rw [H2.kp 0 (by omega)]; exact P1.ob,by rw [H2.kp 1 (by omega)]; exact P1.dc⟩;have A2:Hl s2 2 3 c (hrs K ps.length) (5*ps.length):=⟨by rw [H2.kp 2 (by omega)]; exact P2.ob,by rw [H2.kp 3 (by omega)]; exact P2.dc⟩;have AL:s2[4]?=some (.lst [.r 0,.r 2]):=by rw [H2.kp 4 (by omega)]; exact hL
 have ln2:4 < s2.length:=gy AL;obtain ⟨s3,h3,k3⟩:=tj A1 tr R hR lR;rw [r0] at h3;have B2:Hl s3 2 3 c (hrs K ps.length) (5*ps.length):=⟨by rw [k3 2 (by omega)]; exact A2.ob,by rw [k3 3 (by omega)]; exact A2.dc⟩;have BL:s3[4]?=some (.lst [.r 0,.r 2]):=by rw [k3 4 (by omega)]; exact AL
 have ln3:4 < s3.length:=gy BL;obtain ⟨C,eC⟩:∃ C,C=R.flatMap (clR K ps):=⟨_,rfl⟩;have hC:∀ h∈C,h.d=false:=by rw [eC]; exact Ep K ps R
 have lC:C.length<=100000:=by
  have:=uv (K:=K) tr R.zipIdx λ y hy=>hR _ (J3 hy)
  rw [r0,Kj,<- eC] at this;omega
 have eD:R.flatMap (duR c ps)=C.map (nwD c):=by rw [eC]; exact (Hn c K ps R).symm
 obtain ⟨k13,ek⟩:∃ k13,k13=(kpX K ps R.zipIdx).map λ i:Nat=>Jm (i:Int):=⟨_,rfl⟩;obtain ⟨z7,z15,hdue⟩:=Gc (s:=s3) (sc:=.d (Sd ns)) (K:=K) (L:=4) (n:=s1.length) (x5:=y5) (x6:=y6) (x7:=y7) (x10:=y10) (x11:=y11) (x12:=some (.d (.list (C.map (rwD c))))) (x13:=some (.d (.list k13))) (x15:=none) (x16:=none) (x17:=none) tr hR lR;rw [eD] at hdue;have c1:=Ij (s:=s3) (sc:=.d (Sd ns)) (K:=K) (L:=4) (n:=s1.length) (R:=R) (x5:=y5) (x6:=y6) (x7:=z7) (x10:=y10) (x11:=y11) (x13:=some (.d (.list k13))) (x15:=z15) (x16:=none) (x17:=none) okc hC lC;have c2:=Ii (s:=s3) (sc:=.d (Sd ns)) (L:=4) (n:=s1.length) (R:=R) (x5:=y5) (x6:=y6) (x7:=z7) (x10:=y10) (x11:=y11) (x12:=some (.d (.list (C.map (rwD c))))) (x14:=some (.d (.list (C.map (nwD c))))) (x15:=z15) (x16:=none) (x17:=none) tr kz hR lR;rw [<- ek] at c2;obtain ⟨s4,z17,hsg,k4⟩:=Ax (s:=s3) (sc:=.d (Sd ns)) (n:=s1.length) (R:=R) (x5:=y5) (x6:=y6) (x7:=z7) (x10:=y10) (x11:=y11) (x12:=some (.d (.list (C.map (rwD c))))) (x13:=some (.d (.list k13))) (x14:=some (.d (.list (C.map (nwD c))))) (x15:=z15) (x17:=none) tr BL B2 hR lR;rw [<- eC] at hsg;have D2:Hl s4 2 3 c (hrs K ps.length) (5*ps.length):=⟨by rw [k4 2 (by omega)]; exact B2.ob,by rw [k4 3 (by omega)]; exact B2.dc⟩;have DL:s4[4]?=some (.lst [.r 0,.r 2]):=by rw [k4 4 (by omega)]; exact BL
 obtain ⟨s5,hfin⟩:=F9 (s:=s4) (sc:=.d (Sd ns)) (n:=s1.length) (R:=R) (x5:=y5) (x6:=y6) (x7:=z7) (x10:=y10) (x11:=y11) (x13:=some (.d (.list k13))) (x14:=some (.d (.list (C.map (nwD c))))) (x15:=z15) (x17:=z17) tr DL D2 (C:=C);refine ⟨s5,dB rfl (show vj cX bA al ee cC cn eP (aq 13) ⟨[some (.d (Sd ns)),none,none,none,none,none,none,none,none,none,none,none,none,none,none,none,none,none],[]⟩=_ from ?_)⟩;refine ah (aS (ar (aR (ae rfl (ae rfl rfl)) es))) ?_;refine ah (aS (d:=.d wsD) (ar (eE (cG (ae rfl (ae rfl (ae rfl (ae rfl (ae rfl rfl))))) (iR (by simp)))))) ?_;have m1:=pA (k:=3) (fn:=bA) (fs:=maC (mP (eV 1)) maN) (w:=⟨[some (.d (Sd ns)),some (.d c.d),some (.d wsD),none,none,none,none,none,none,none,none,none,none,none,none,none,none,none],[]⟩) (aD (s1:=[]) (ar rfl) bD) (CY (c:=c) (s:=[]));have m2:=pA (k:=3) (fn:=bA) (fs:=maC (mP (eV 1)) maN) (w:=⟨[some (.d (Sd ns)),some (.d c.d),some (.d wsD),none,none,none,none,none,none,none,none,none,none,none,none,none,none,none],[.obj 3 (HL.hf c 1 0),.dct []]⟩) (aD (s1:=[.obj 3 (HL.hf c 1 0),.dct []]) (ar rfl) bD) (CY (c:=c) (s:=[.obj 3 (HL.hf c 1 0),.dct []]));refine ah (w1:=⟨[some (.d (Sd ns)),some (.d c.d),some (.d wsD),some (.r 4),none,none,none,none,none,none,none,none,none,none,none,none,none,none],S5 c⟩) (aS (d:=.r 4) ?_) ?_
 ·exact DP (aD m1 (aD m2 bD)) (by simp)
 refine ah (w1:=⟨E6 (.d (Sd ns)) c K 4 none none none,S5 c⟩) (aS (d:=.d (kvD c K)) (ar (ai (ai (eE (cG (ae rfl rfl) (iR (by simp)))) (eE (fH (ds:=c.st.map c.box) (jK rfl rfl) (by rw [Iy]; have:=okc.len; omega) (i9 (η:=[.un]) c.box (λ x=>c.s x.1) c.st λ x _=>⟨[.val (c.box x)],rfl,ai rfl rfl rfl⟩))) (zw (by rw [Iy]; have:=okc.len; simp; omega))) (aR (ae rfl (ae rfl (ae (ai (x:=.int (ps.length:Int)) (aR (ae rfl rfl) ?_) rfl rfl) rfl))) dK) (by rw [tr.st]; exact D8 tr hK)))) ?_
 ·show some (Jm (((c.st.map c.box).length:Nat):Int))=_;rw [Iy,el]
 refine ah hf1 ?_;refine ah (w1:=⟨[some (.d (Sd ns)),some (.d c.d),some (.d wsD),some (.r 4),some (.d (kvD c K)),y5,y6,y7,some (.r s1.length),none,none,none,none,none,none,none,none,none],s1++[.obj 1 (nf c (s1.length+1)),.dct []]⟩) (aS (pA (aD (s1:=s1) (ar rfl) bD) (EB c s1))) ?_;refine ah (w1:=⟨E8 (.d (Sd ns)) c K 4 y5 y6 y7 s1.length [] none none,s1++[.obj 1 (nf c (s1.length+1)),.dct []]⟩) (aS (ar (eE (cG rfl (iR (by simp)))))) ?_;refine ah hh ?_;rw [show E8 (.d (Sd ns)) c K 4 y5 y6 y7 s1.length l y10 y11=E9 (.d (Sd ns)) c K 4 y5 y6 y7 s1.length R y10 y11 none none none none none none by show [_,_,_,_,_,_,_,_,_,some (D.d (Rw c l)),_,_,_,_,_,_,_,_]=_; rw [eRw]];refine ah (w1:=⟨E9 (.d (Sd ns)) c K 4 y5 y6 y7 s1.length R y10 y11 (some (.d (.list (C.map (rwD c))))) (some (.d (.list k13))) none none none none,s3⟩) (DN (d:=seD c C (kpX K ps R.zipIdx)) (rP (aD (Ch rfl AL) (aD (ar rfl) bD)) (by rw [eC]; exact h3)) (by rw [ek]; rfl)) ?_;refine ah (w1:=⟨E9 (.d (Sd ns)) c K 4 y5 y6 y7 s1.length R y10 y11 (some (.d (.list (C.map (rwD c))))) (some (.d (.list k13))) (some (.d (.list []))) none none none,s3⟩) (aS (ar (eE (cG rfl (iR (by simp)))))) ?_;refine ah hdue ?_;refine ah (rO c1) (ah (rO c2) ?_);refine ah (w1:=⟨E9 (.d (Sd ns)) c K 4 y5 y6 z7 s1.length R y10 y11 (some (.d (.list (C.map (rwD c))))) (some (.d (.list k13))) (some (.d (.list (C.map (nwD c))))) z15 (some (.d (.list []))) none,s3⟩) (aS (ar (eE (cG rfl (iR (by simp)))))) ?_;exact ah hsg hfin
end K26
open PySem L2 L2.PU
theorem PySem.Challenge.cw_touchtree_k26_whole_sent_holds : PySem.Challenge.rw_touchtree_k26_whole_sent.Holds := by
  obtain ⟨K, hY, tx⟩ := K26.tx
  exact Ha K26.hk K26.hlA K26.hlB (C4 (n := 63) (k := 22) (x := "_law_script") (CX := λ _ => CX0) (sp := λ w => spL (K w.params)) rfl (by decide) K26.hk.dd ⟨rfl, by decide, by decide⟩ hY (λ w mg fa h KX G hm => by
    obtain ⟨t, tx⟩ := tx w.params mg h KX G
    rw [K26.hk.dn] at hm
    exact FS hm tx.B0 tx.p4 (λ _ => (K26.CU tx).imp (Dd K26.main)) λ _ _ _ _ _ _ _ => rfl) (λ _ _ a ns hl _ hS => ⟨a, ns, rfl, hS, hl, λ _ => rfl⟩) λ _ _ _ _ _ z => z)
#print axioms PySem.Challenge.cw_touchtree_k26_whole_sent_holds
