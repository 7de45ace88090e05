/- The landed readers refuse with two errors alone. -/
import Derived.Test.YtpkmbhnikilihaaGreatDoorQv30
set_option maxRecDepth 100000
set_option maxHeartbeats 4000000
namespace Go.Proofs.YtpkmbhnikilihaaGreatDoor
def Bad (x:Int):Prop:=x=2∨x=4
def Er {α:Type} (p:Rdr α):Prop:=∀ ts x,p ts=.error x→Bad x
theorem er_two {α:Type} : Er (errR 2:Rdr α):=fun _ _ h=>.inl (Except.error.inj h).symm
theorem er_four {α:Type} : Er (errR 4:Rdr α):=fun _ _ h=>.inr (Except.error.inj h).symm
theorem er_ret {α:Type} (a:α):Er (retR a):=fun _ _ h=>by cases h
theorem er_bind {α β:Type} {p:Rdr α} {q:α→Rdr β} (hp:Er p) (hq:∀ a,Er (q a)):Er (bindR p q):=fun ts x h=>by
 unfold bindR at h
 cases hz:p ts with
 | error y=>rw [hz] at h;have:=Except.error.inj h;subst this;exact hp _ _ hz
 | ok z=>obtain ⟨a,r⟩:=z;rw [hz] at h;exact hq a _ _ h
theorem er_if {α:Type} {k:Int} {s:ByteArray} {p q:Rdr α} (hp:Er p) (hq:Er q):Er (ifR k s p q):=fun ts x h=>by
 unfold ifR at h
 split at h
 · exact hp _ _ h
 · exact hq _ _ h
theorem er_see {α:Type} {b:List Tok→Bool} {p q:Rdr α} (hp:Er p) (hq:Er q):Er (seeR b p q):=fun ts x h=>by
 unfold seeR at h
 split at h
 · exact hp _ _ h
 · exact hq _ _ h
theorem er_nm {α:Type} {p:ByteArray→Rdr α} {q:Rdr α} (hp:∀ n,Er (p n)) (hq:Er q):Er (nmR p q):=fun ts x h=>by
 unfold nmR at h
 cases hz:nameR ts with
 | none=>rw [hz] at h;exact hq _ _ h
 | some z=>obtain ⟨n,r⟩:=z;rw [hz] at h;exact hp n _ _ h
theorem er_cond {α:Type} {P:Prop} [Decidable P] {p q:Rdr α} (hp:Er p) (hq:Er q):Er (if P then p else q):=by split;exact hp;exact hq
theorem er_one:Er oneR:=fun ts x h=>by
 cases ts with
 | nil=>exact .inl (Except.error.inj h).symm
 | cons t r =>
   unfold oneR at h
   simp only at h
   cases hs:singleR t with
   | none=>rw [hs] at h;exact .inl (Except.error.inj h).symm
   | some q=>rw [hs] at h;cases h
def ErN {α:Type} (n:Nat) (p:Rdr α):Prop:=∀ ts x,ts.length≤n→p ts=.error x→Bad x
theorem ern_if {α:Type} {n:Nat} {k:Int} {s:ByteArray} {p q:Rdr α} (hp:∀ m,m < n→ErN m p) (hq:ErN n q):ErN n (ifR k s p q):=fun ts x hl h=>by
 unfold ifR at h
 split at h
 · rename_i ha
   exact hp ts.tail.length (by have:=(at_sfx ha).2;omega) _ _ (Nat.le_refl _) h
 · exact hq _ _ hl h
theorem ern_bind {α β:Type} {n:Nat} {p:Rdr α} {q:α→Rdr β} (sp:Str p) (hp:ErN n p) (hq:∀ a m,m < n→ErN m (q a)):ErN n (bindR p q):=fun ts x hl h=>by
 unfold bindR at h
 cases hz:p ts with
 | error y=>rw [hz] at h;have:=Except.error.inj h;subst this;exact hp _ _ hl hz
 | ok z =>
   obtain ⟨a,r⟩:=z
   rw [hz] at h
   exact hq a r.length (by have:=(sp _ _ _ hz).2;omega) _ _ (Nat.le_refl _) h
theorem ern_bind0 {α β:Type} {n:Nat} {p:Rdr α} {q:α→Rdr β} (hp:ErN n p) (hq:∀ a,Er (q a)):ErN n (bindR p q):=fun ts x hl h=>by
 unfold bindR at h
 cases hz:p ts with
 | error y=>rw [hz] at h;have:=Except.error.inj h;subst this;exact hp _ _ hl hz
 | ok z=>obtain ⟨a,r⟩:=z;rw [hz] at h;exact hq a _ _ h
theorem ern_nm {α:Type} {n:Nat} {p:ByteArray→Rdr α} {q:Rdr α} (hp:∀ s m,m < n→ErN m (p s)) (hq:ErN n q):ErN n (nmR p q):=fun ts x hl h=>by
 unfold nmR at h
 cases hz:nameR ts with
 | none=>rw [hz] at h;exact hq _ _ hl h
 | some z=>obtain ⟨s,r⟩:=z;rw [hz] at h;exact hp s r.length (by have:=(name_sfx hz).2;omega) _ _ (Nat.le_refl _) h
theorem ern_of {α:Type} {n:Nat} {p:Rdr α} (h:Er p):ErN n p:=fun ts x _ e=>h ts x e
theorem er_of {α:Type} {p:Rdr α} (h:∀ n,ErN n p):Er p:=fun ts x e=>h ts.length ts x (Nat.le_refl _) e
theorem ern_cond {α:Type} {n:Nat} {P:Prop} [Decidable P] {p q:Rdr α} (hp:ErN n p) (hq:ErN n q):ErN n (if P then p else q):=by split;exact hp;exact hq
theorem er_read:∀ n,(∀ fx d,ErN n (valD fx d))∧(∀ fx d acc,ErN n (itemsD fx d acc))∧(∀ fx d acc,ErN n (memsD fx d acc))∧(∀ fx d,ErN n (memD fx d)):=by
 intro n
 induction n using Nat.strongRecOn with
 | ind n ih =>
   have hv:∀ fx d,ErN n (valD fx d):=by
     intro fx d
     rw [valD_eq]
     refine ern_if (fun m hm=>ern_cond (ern_of er_four) (ern_bind0 ((ih m hm).2.1 _ _ _) fun _=>er_ret _)) ?_
     refine ern_if (fun m hm=>ern_cond (ern_of er_four) (ern_bind0 ((ih m hm).2.2.1 _ _ _) fun _=>er_ret _)) ?_
     exact ern_of (er_cond er_one (er_if (er_nm (fun _=>er_ret _) er_two) er_one))
   have hm:∀ fx d,ErN n (memD fx d):=by
     intro fx d
     rw [memD_eq]
     exact ern_nm (fun _ k hk=>ern_if (fun m hm=>ern_bind0 ((ih m (by omega)).1 _ _) fun _=>er_ret _) (ern_of er_two)) (ern_of er_two)
   refine ⟨hv,fun fx d acc=>?_,fun fx d acc=>?_,hm⟩
   · rw [itemsD_eq]
     exact ern_if (fun _ _=>ern_of (er_ret _)) (ern_bind (str_val _ _) (hv _ _) fun _ m hm=>(ih m hm).2.1 _ _ _)
   · rw [memsD_eq]
     exact ern_if (fun _ _=>ern_of (er_ret _)) (ern_bind (str_mem _ _) (hm _ _) fun _ m hm=>(ih m hm).2.2.1 _ _ _)
theorem er_val (fx:Bool) (d:Nat):Er (valD fx d):=er_of fun n=>(er_read n).1 fx d
theorem er_mem (fx:Bool) (d:Nat):Er (memD fx d):=er_of fun n=>(er_read n).2.2.2 fx d
theorem ern_ser {α ρ:Type} {one:Rdr α} {add:ρ→α→ρ} {e:ByteArray} (H:Str one):∀ n,ErN n one→∀ acc,ErN n (serD one add e acc):=by
 intro n
 induction n using Nat.strongRecOn with
 | ind n ih =>
   intro ho acc
   rw [serD_eq H]
   exact ern_bind H ho fun _ m hm=>ern_if (fun _ _=>ern_of (er_ret _)) (ih m hm (fun ts x hl h=>ho ts x (by omega) h) _)
theorem er_args (fx:Bool) (d:Nat):Er (argsR fx d):=by
 rw [argsR_eq];exact er_if (er_of fun n=>ern_ser (str_mem _ _) n (ern_of (er_mem _ _)) _) (er_ret _)
theorem er_dirs (fx:Bool) (d:Nat):Er (dirsR fx d):=by
 have : ∀ n acc,ErN n (dirsD fx d acc):=by
  intro n
  induction n using Nat.strongRecOn with
  | ind n ih =>
    intro acc
    rw [dirsD_eq]
    refine ern_if (fun m hm=>ern_nm (fun _ k hk=>?_) (ern_of er_two)) (ern_of (er_ret _))
    intro ts x hl h
    unfold bindR at h
    cases hz:argsR fx d ts with
    | error y=>rw [hz] at h;have:=Except.error.inj h;subst this;exact er_args _ _ _ _ hz
    | ok z =>
      obtain ⟨a,r⟩:=z
      rw [hz] at h
      exact ih r.length (by have:=(args_sfx hz).length_le;omega) _ _ _ (Nat.le_refl _) h
 exact er_of fun n=>this n []
theorem er_typ:∀ left,Er (typeR left)
 | 0=>by rw [typeR_eq0];exact er_if er_four (er_nm (fun _=>er_if (er_ret _) (er_ret _)) er_two)
 | left+1=>by
   rw [typeR_eq]
   exact er_if (er_bind (er_typ left) fun _=>er_if (er_if (er_ret _) (er_ret _)) er_two) (er_nm (fun _=>er_if (er_ret _) (er_ret _)) er_two)
theorem ern_inline {S:SelsF} {n:Nat} (hS:ErN n S) (d:Nat) (o:ByteArray):ErN n (inlineR S d o):=by
 rw [inlineR_eq]
 intro ts x hl h
 unfold bindR at h
 cases hz:dirsR false d ts with
 | error y=>rw [hz] at h;have:=Except.error.inj h;subst this;exact er_dirs _ _ _ _ hz
 | ok z =>
   obtain ⟨a,r⟩:=z
   rw [hz] at h
   exact ern_bind0 (q:=fun s=>retR (SelT.mk 2 eB eB .nil a o s)) hS (fun _=>er_ret _) r x (by have:=(dirs_sfx hz).length_le;omega) h
theorem ern_rest {S:SelsF} {n:Nat} (hS:ErN n S) (d:Nat) (al nm:ByteArray):ErN n (restR S d al nm):=by
 rw [restR_eq]
 intro ts x hl h
 unfold bindR at h
 cases hz:argsR false d ts with
 | error y=>rw [hz] at h;have:=Except.error.inj h;subst this;exact er_args _ _ _ _ hz
 | ok z =>
   obtain ⟨g,r0⟩:=z
   rw [hz] at h
   simp only at h
   have h0:=(args_sfx hz).length_le
   cases hd:dirsR false d r0 with
   | error y=>rw [hd] at h;have:=Except.error.inj h;subst this;exact er_dirs _ _ _ _ hd
   | ok z =>
     obtain ⟨a,r⟩:=z
     rw [hd] at h
     have h1:=(dirs_sfx hd).length_le
     simp only at h
     unfold seeR at h
     split at h
     · exact ern_bind0 (q:=fun s=>retR (SelT.mk 0 al nm g a eB s)) hS (fun _=>er_ret _) r x (by omega) h
     · cases h
theorem ern_sel {S:SelsF} {n:Nat} (hS:∀ m,m < n→ErN m S) (d:Nat):ErN n (selOne S d):=by
 rw [selOne_eq]
 refine ern_if (fun m hm=>?_) ?_
 · rw [spreadR_eq]
   exact ern_if (fun k hk=>ern_nm (fun _ j hj=>ern_inline (hS j (by omega)) d _) (ern_of er_two)) (ern_nm (fun _ j _=>ern_of (er_bind (er_dirs _ _) fun _=>er_ret _)) (ern_inline (hS m hm) d _))
 · rw [fieldR_eq]
   exact ern_nm (fun _ k hk=>ern_if (fun j hj=>ern_nm (fun _ i hi=>ern_rest (hS i (by omega)) _ _ _) (ern_of er_two)) (ern_rest (hS k hk) _ _ _)) (ern_of er_two)
theorem ern_sels:∀ n d,ErN n (selsD d):=by
 intro n
 induction n using Nat.strongRecOn with
 | ind n ih =>
   intro d
   rw [selsD_eq]
   refine ern_if (fun m hm=>ern_cond (ern_of er_four) (ern_ser (str_selD _) m ?_ _)) (ern_of er_two)
   rw [selD_eq]
   exact ern_sel (fun k hk=>ih k (by omega) _) _
theorem er_sels (d:Nat):Er (selsD d):=er_of fun n=>ern_sels n d
theorem er_var (d:Nat):Er (varR d):=by
 rw [varR_eq]
 exact er_if (er_nm (fun _=>er_if (er_bind (er_typ _) fun _=>er_if (er_bind (er_val _ _) fun _=>er_ret _) (er_ret _)) er_two) er_two) er_two
theorem er_vars (d:Nat):Er (varsR d):=by
 rw [varsR_eq];exact er_if (er_of fun n=>ern_ser (str_var _) n (ern_of (er_var _)) _) (er_ret _)
theorem er_opRest (k:Int) (d:Nat) (nm:ByteArray):Er (opRest k d nm):=by
 rw [opRest_eq];exact er_bind (er_vars _) fun _=>er_bind (er_dirs _ _) fun _=>er_bind (er_sels _) fun _=>er_ret _
theorem er_op (k:Int) (d:Nat):Er (opR k d):=by rw [opR_eq];exact er_nm (fun _=>er_opRest _ _ _) (er_opRest _ _ _)
theorem er_frag (d:Nat):Er (fragR d):=by
 rw [fragR_eq]
 exact er_see er_two (er_nm (fun _=>er_if (er_nm (fun _=>er_bind (er_dirs _ _) fun _=>er_bind (er_sels _) fun _=>er_ret _) er_two) er_two) er_two)
theorem er_oneD:Er oneD:=er_see (er_bind (er_sels _) fun _=>er_ret _) (er_if (er_bind (er_op _ _) fun _=>er_ret _) (er_if (er_bind (er_op _ _) fun _=>er_ret _) (er_if (er_bind (er_frag _) fun _=>er_ret _) er_two)))
theorem er_defs:∀ f ts x,defsF f ts=.error x→Bad x
 | 0,_,_,h=>.inl (Except.error.inj h).symm
 | f + 1,ts,x,h=>by
   rw [defsF] at h
   cases ho:oneD ts with
   | error y=>rw [ho] at h;have:=Except.error.inj h;subst this;exact er_oneD _ _ ho
   | ok q =>
     obtain ⟨a,r⟩:=q
     rw [ho] at h
     simp only at h
     split at h
     · cases h
     · cases hd:defsF f r with
       | error y=>rw [hd] at h;have:=Except.error.inj h;subst this;exact er_defs f r _ hd
       | ok l=>rw [hd] at h;cases h
theorem doc_bad {ts:List Tok} {x:Int} (h:docR ts=.error x):Bad x:=by
 rw [docR_eq] at h
 cases hd:defsD ts with
 | error y=>rw [hd] at h;have:=Except.error.inj h;subst this;exact er_defs _ _ _ hd
 | ok l=>rw [hd] at h;cases h
open Go.RowKit
theorem doc_badr (ts:List Tok) (x:Int) (h:docRr ts=.error x):Bad x:=by
 unfold docRr at h
 cases hd:docR ts with
 | error y=>rw [hd] at h;have:=Except.error.inj h;subst this;exact doc_bad hd
 | ok D=>rw [hd] at h;cases h
theorem val_bad {fx:Bool} (ts:List Tok) (x:Int) (h:valD fx 0 ts=.error x):Bad x:=er_val fx 0 ts x h
def Res {α:Type} (enc:α→TrS) (zero:List Value) (w w':World) (R:Except Int α) (x:Int) (cs:List Value):Prop:=
 match R with
 | .ok a=>x=0∧TS w' (Fresh w w') (enc a) cs
 | .error y=>x=y∧y ≠ 0∧cs=zero
theorem res_up {α:Type} {enc:α→TrS} {zero cs:List Value} {w0 w w' W:World} {R:Except Int α} {x:Int} (h:Res enc zero w w' R x cs) (hw:w0.heap.size≤w.heap.size) (hs:w'.heap.size≤W.heap.size) (hk:∀ k,w.heap.size≤k→k < w'.heap.size→W.heap[k]? = w'.heap[k]?):Res enc zero w0 W R x cs:=by
 cases R with
 | error y=>exact h
 | ok a=>exact ⟨h.1,TS.keep (fun k hk'=>⟨⟨Nat.le_trans hw hk'.1,Nat.lt_of_lt_of_le hk'.2 hs⟩,hk k hk'.1 hk'.2⟩) _ _ h.2⟩
theorem ret_st2 {R:Ending→World→Prop} {fn:Func} {a:Act} {W:World} {cs:List Value} {ty:TypeId} {p q b:Nat} {v:Value} {ds:TypeDesc} (hf:fn.results=#[.cell p ty,.tmp q]) (h2:a.tmps.getD p undef=.pointer (some ⟨b,0,none⟩)) (h3:a.tmps.getD q undef=v) (hd:a.defers=[])
  (hc:W.heap[b]? = some (.cells cs.toArray ty (0,0))) (hu:Tryz.prog.underlying ty=some ds) (hs:∃ fs,ds=.struct fs) (hi:(Tryz.prog.info? ty).map (·.size)=some cs.length) (hR:R (.returned (.tuple #[.agg cs.toArray,v])) W):bodyPost Tryz.prog fn R .ret a W:=by
 obtain ⟨fs,rfl⟩:=hs
 have hl:(loadVar ty ⟨b,0,none⟩).run Tryz.prog W=.ok (.agg cs.toArray) W:=run_loadVar_row W b ty ty cs.toArray (0,0) _ hc hu rfl (by rw [hi];simp)
 refine bodyPost_ret ?_ hd hR
 have h2':a.tmps[p]?.getD undef=.pointer (some ⟨b,0,none⟩):=by rw [← h2];simp
 have h3':a.tmps[q]?.getD undef=v:=by rw [← h3];simp
 simp [results,hf,h2',h3',asAddr,hl]
theorem val1_any (fx:Bool) (bx d:Nat) (ts:List Tok) (r:Nat) (w:World) (hG:GoodD ts) (hd:d≤16) (hR:Rd w r ts d) (hK:KRd r w) (hX:w.heap[bx]? = some (.cells #[.bool fx] 4 (0,0))):Calls Tryz.prog 48 #[.pointer (some ⟨r,0,none⟩),.pointer (some ⟨bx,0,none⟩)] w (Post r d w (layS encV) (valD fx d ts)):=by
 suffices H:∀ Q:Ending→World→Prop,(∀ e w',Post r d w (layS encV) (valD fx d ts) e w'→Q e w')→Calls Tryz.prog 48 #[.pointer (some ⟨r,0,none⟩),.pointer (some ⟨bx,0,none⟩)] w Q from H _ (fun _ _ h=>h)
 intro Q hQ
 have HQ:=Hd hQ
 have K0:=Hd (S0.start hR hK #[.int .i64 0,.int .i64 0,.string ⟨#[]⟩,.slice none 0 0,.slice none 0 0] 35)
 obtain ⟨q0,_⟩:=one_box ((blw w (.cells #[.int .i64 0,.int .i64 0,.string ⟨#[]⟩,.slice none 0 0,.slice none 0 0] 35)).block bx (Array.getElem?_eq_some_iff.1 hX).1 |>.trans hX)
 have HG:=Hd hG
 clear hQ hR hK hX hG
 go_enter Tryz.func48,Tryz.ntmps48
 go_wp2_with fail
 refine (val_post fx d ts r _ HG.out hd K0.out.rd K0.out.k).mono ?_
 intro e w1 h
 cases hv:valD fx d ts with
 | error x =>
   rw [hv] at h
   obtain ⟨rfl,m⟩:=of_err h
   exact ⟨rfl,HQ.out _ _ (per hv (K0.out.mv.trans m))⟩
 | ok p =>
   obtain ⟨a,ts1⟩:=p
   rw [hv] at h
   obtain ⟨⟨v,rfl,hl⟩,r1,m1⟩:=of_ok h
   obtain ⟨vk,vn,vs,A3,n3,k3,A4,n4,k4,rfl,hts⟩:=val_open hl
   have K1:=Hd (K0.out.next r1 m1)
   have T1:=Hd (OvS.of hts K0.out.lt)
   obtain ⟨y0,y1,y2,y3,y4,yz⟩:=gfv_cells K1.out.res
   have z0:=yz 0
   have z1:=yz 1
   have z2:=yz 2
   have z3:=yz 3
   have z4:=yz 4
   have HV:=Hd hv
   clear r1 m1 hl hts h hv q0 yz
   go_wp2_with fail
   obtain ⟨f1,f2,f3⟩:=S0.fin (ys:=[.int .i64 0,.int .i64 0,.string ⟨#[]⟩,.slice none 0 0,.slice none 0 0]) K1.out [.int .i64 vk,.int .i64 vn,.string vs,.slice A3 n3 k3,.slice A4 n4 k4] rfl
   have FT:=T1.out.fin (w:=w) (Nat.le_refl _) [.int .i64 vk,.int .i64 vn,.string vs,.slice A3 n3 k3,.slice A4 n4 k4]
   have FP:=HQ.out _ _ (post_ok HV.out ⟨_,rfl,FT⟩ f2 f3)
   exact ret_st rfl rfl rfl f1 Tryz.underlying35 ⟨_,rfl⟩ (by kernel_rfl) FP
theorem wholeD_any (s:ByteArray) (w:World) (hs:s.size≤9000) (h3:Laid3 w) (h5:Laid5 w):Calls Tryz.prog 41 #[.string s,.func (.func 42) #[] #[]] w fun e w'=>∃ (A0:Option Addr) (n0 k0:Nat) (A1:Option Addr) (n1 k1:Nat) (x:Int),e=.returned (.tuple #[.agg #[.slice A0 n0 k0,.slice A1 n1 k1],.int .i64 x])∧Res encDoc [.slice none 0 0,.slice none 0 0] w w' (wholeA docRr s.data.toList) x [.slice A0 n0 k0,.slice A1 n1 k1]∧Below w.heap.size w w':=by
 have hGD:=readS_goodD hs
 have hl:=readS_len hs
 unfold wholeA
 obtain ⟨⟨ts,x⟩,hr⟩:∃ p,readS s.data.toList=p:=⟨_,rfl⟩
 rw [hr] at hGD hl ⊢
 replace hl:ts.length≤200000:=by have:ts.length≤9001:=hl;omega
 by_cases hx:x=0
 · subst hx
   rw [if_neg (by simp)]
   cases ht:docRr (tokB ts) with
   | error y =>
     refine (wholeD_no s w hs h3 h5 ts hl _ (fun g wx hb hg hx hk=>doc_any (tokB ts) g wx hGD hx hk) hr y ht).mono ?_
     rintro e w' ⟨rfl,hb⟩
     exact ⟨none,0,0,none,0,0,y,rfl,⟨rfl,by rcases doc_badr _ _ ht with e|e<;>omega,rfl⟩,hb⟩
   | ok p =>
     obtain ⟨a,r⟩:=p
     cases r with
     | nil =>
       refine (wholeD_yes s w hs h3 h5 ts hl _ (fun g wx hb hg hx hk=>doc_any (tokB ts) g wx hGD hx hk) hr a ht).mono ?_
       rintro e w' ⟨cs,rfl,hts,hb⟩
       obtain ⟨A0,n0,k0,A1,n1,k1,e0,hts⟩:=doc_open (show layS encDoc w' (Fresh w w') a (.agg cs.toArray) from ⟨cs,rfl,hts⟩)
       injection e0 with e0
       have e0:cs=[.slice A0 n0 k0,.slice A1 n1 k1]:=by have:=congrArg Array.toList e0;simpa using this
       subst e0
       exact ⟨_,_,_,_,_,_,0,rfl,show Res encDoc _ w w' (if ([]:List Tok)=[] then .ok a else .error 2) _ _ by rw [if_pos rfl];exact ⟨rfl,hts⟩,hb⟩
     | cons t ts2 =>
       refine (wholeD_more s w hs h3 h5 ts hl _ (fun g wx hb hg hx hk=>doc_any (tokB ts) g wx hGD hx hk) hr a t ts2 ht).mono ?_
       rintro e w' ⟨rfl,hb⟩
       exact ⟨none,0,0,none,0,0,2,rfl,show Res encDoc _ w w' (if t :: ts2=[] then .ok a else .error 2) _ _ by rw [if_neg (by simp)];exact ⟨rfl,by omega,rfl⟩,hb⟩
 · rw [if_pos hx]
   refine (wholeD_err s w hs h3 ts x hx hr).mono ?_
   rintro e w' ⟨rfl,hb⟩
   exact ⟨none,0,0,none,0,0,x,rfl,⟨rfl,hx,rfl⟩,hb⟩
theorem pread_any (s:ByteArray) (w:World) (hs:s.size≤9000) (h3:Laid3 w) (h5:Laid5 w):Calls Tryz.prog 14 #[.string s] w fun e w'=>∃ (A0:Option Addr) (n0 k0:Nat) (A1:Option Addr) (n1 k1:Nat) (x:Int),e=.returned (.tuple #[.agg #[.slice A0 n0 k0,.slice A1 n1 k1],.int .i64 x])∧Res encDoc [.slice none 0 0,.slice none 0 0] w w' (wholeA docRr s.data.toList) x [.slice A0 n0 k0,.slice A1 n1 k1]∧Below w.heap.size w w':=by
 suffices H:∀ Q:Ending→World→Prop,(∀ e w',(∃ (A0:Option Addr) (n0 k0:Nat) (A1:Option Addr) (n1 k1:Nat) (x:Int),e=.returned (.tuple #[.agg #[.slice A0 n0 k0,.slice A1 n1 k1],.int .i64 x])∧Res encDoc [.slice none 0 0,.slice none 0 0] w w' (wholeA docRr s.data.toList) x [.slice A0 n0 k0,.slice A1 n1 k1]∧Below w.heap.size w w')→Q e w')→Calls Tryz.prog 14 #[.string s] w Q from H _ (fun _ _ h=>h)
 intro Q hQ
 have HQ:=Hd hQ
 have hmf:∀ (fn:Fn) (first cap:Array Value) (w:World),(Instr.makeFunc fn first cap).run Tryz.prog w=.ok (.func fn first cap) w:=fun _ _ _ _=>rfl
 have B0:=Hd (blw w (.cells #[.slice none 0 0,.slice none 0 0] 26))
 have Y:=Hd (heap_alloc_last w (.cells #[.slice none 0 0,.slice none 0 0] 26))
 have hSZ:=Hd (show (w.alloc (.cells #[.slice none 0 0,.slice none 0 0] 26)).heap.size=w.heap.size+1 by simp)
 clear hQ
 go_enter Tryz.func14,Tryz.ntmps14
 go_wp2_with fail
 refine (wholeD_any s _ hs (h3.below B0.out) (h5.below B0.out)).mono ?_
 rintro e w2 ⟨A0,n0,k0,A1,n1,k1,x,rfl,hres,hb2⟩
 have hsz:=B0.out.size
 have Z:=Hd ((hb2.block (w.heap.size) (by simp)).trans Y.out)
 have B2:=Hd (B0.out.trans (hb2.mono hsz))
 have RS:=Hd hres
 have hs2:=hb2.size
 obtain ⟨j0,j1,kz⟩:=ptc Z.out
 have kf0:=kz 0
 have kf1:=kz 1
 clear kz hres
 go_wp2_with fail
 have f1:=setAll_row (b:=w.heap.size) (t:=26) (ys:=[.slice none 0 0,.slice none 0 0]) (xs:=[.slice A0 n0 k0,.slice A1 n1 k1]) rfl Z.out
 have f3:=below_setAll (B:=w.heap.size) (b:=w.heap.size) (by omega) [.slice A0 n0 k0,.slice A1 n1 k1] 0 _ B2.out
 have hz:(setAll w2 (w.heap.size) 0 [.slice A0 n0 k0,.slice A1 n1 k1]).heap.size=w2.heap.size:=setAll_size _ _ _ _
 have hko:∀ k,(w.heap.size)+1≤k→k < w2.heap.size→(setAll w2 (w.heap.size) 0 [.slice A0 n0 k0,.slice A1 n1 k1]).heap[k]? = w2.heap[k]?:=fun k hk _=>setAll_other (by omega) _ _ _
 exact ret_st2 rfl rfl rfl rfl f1 Tryz.underlying26 ⟨_,rfl⟩ (by kernel_rfl) (HQ.out _ _ ⟨A0,n0,k0,A1,n1,k1,x,rfl,res_up RS.out hsz (Nat.le_of_eq hz.symm) (fun k hk hk2=>hko k (Nat.le_trans (Nat.le_of_eq hSZ.out.symm) hk) hk2),f3⟩)
theorem wholeV_any (s:ByteArray) (w:World) (fx:Bool) (bx:Nat) (hX:w.heap[bx]? = some (.cells #[.bool fx] 4 (0,0))) (hs:s.size≤9000) (h3:Laid3 w) (h5:Laid5 w):Calls Tryz.prog 47 #[.string s,.func (.func 48) #[] #[.pointer (some ⟨bx,0,none⟩)]] w fun e w'=>∃ (vk vn:Int) (vs:ByteArray) (A3:Option Addr) (n3 k3:Nat) (A4:Option Addr) (n4 k4:Nat) (x:Int),e=.returned (.tuple #[.agg #[.int .i64 vk,.int .i64 vn,.string vs,.slice A3 n3 k3,.slice A4 n4 k4],.int .i64 x])∧Res encV [.int .i64 0,.int .i64 0,.string ⟨#[]⟩,.slice none 0 0,.slice none 0 0] w w' (wholeA (valD fx 0) s.data.toList) x [.int .i64 vk,.int .i64 vn,.string vs,.slice A3 n3 k3,.slice A4 n4 k4]∧Below w.heap.size w w':=by
 have hGD:=readS_goodD hs
 have hl:=readS_len hs
 unfold wholeA
 obtain ⟨⟨ts,x⟩,hr⟩:∃ p,readS s.data.toList=p:=⟨_,rfl⟩
 rw [hr] at hGD hl ⊢
 replace hl:ts.length≤200000:=by have:ts.length≤9001:=hl;omega
 by_cases hx:x=0
 · subst hx
   rw [if_neg (by simp)]
   cases ht:(valD fx 0) (tokB ts) with
   | error y =>
     refine (wholeV_no bx s w hs h3 h5 ts hl _ (fun g wx hb hg hx hk=>val1_any fx bx 0 (tokB ts) g wx hGD (Nat.zero_le _) hx hk ((hb.block bx (Array.getElem?_eq_some_iff.1 hX).1).trans hX)) hr y ht).mono ?_
     rintro e w' ⟨rfl,hb⟩
     exact ⟨0,0,⟨#[]⟩,none,0,0,none,0,0,y,rfl,⟨rfl,by rcases val_bad _ _ ht with e|e<;>omega,rfl⟩,hb⟩
   | ok p =>
     obtain ⟨a,r⟩:=p
     cases r with
     | nil =>
       refine (wholeV_yes bx s w hs h3 h5 ts hl _ (fun g wx hb hg hx hk=>val1_any fx bx 0 (tokB ts) g wx hGD (Nat.zero_le _) hx hk ((hb.block bx (Array.getElem?_eq_some_iff.1 hX).1).trans hX)) hr a ht).mono ?_
       rintro e w' ⟨cs,rfl,hts,hb⟩
       obtain ⟨vk,vn,vs,A3,n3,k3,A4,n4,k4,e0,hts⟩:=val_open (show layS encV w' (Fresh w w') a (.agg cs.toArray) from ⟨cs,rfl,hts⟩)
       injection e0 with e0
       have e0:cs=[.int .i64 vk,.int .i64 vn,.string vs,.slice A3 n3 k3,.slice A4 n4 k4]:=by have:=congrArg Array.toList e0;simpa using this
       subst e0
       exact ⟨_,_,_,_,_,_,_,_,_,0,rfl,show Res encV _ w w' (if ([]:List Tok)=[] then .ok a else .error 2) _ _ by rw [if_pos rfl];exact ⟨rfl,hts⟩,hb⟩
     | cons t ts2 =>
       refine (wholeV_more bx s w hs h3 h5 ts hl _ (fun g wx hb hg hx hk=>val1_any fx bx 0 (tokB ts) g wx hGD (Nat.zero_le _) hx hk ((hb.block bx (Array.getElem?_eq_some_iff.1 hX).1).trans hX)) hr a t ts2 ht).mono ?_
       rintro e w' ⟨rfl,hb⟩
       exact ⟨0,0,⟨#[]⟩,none,0,0,none,0,0,2,rfl,show Res encV _ w w' (if t :: ts2=[] then .ok a else .error 2) _ _ by rw [if_neg (by simp)];exact ⟨rfl,by omega,rfl⟩,hb⟩
 · rw [if_pos hx]
   refine (wholeV_err bx s w hs h3 ts x hx hr).mono ?_
   rintro e w' ⟨rfl,hb⟩
   exact ⟨0,0,⟨#[]⟩,none,0,0,none,0,0,x,rfl,⟨rfl,hx,rfl⟩,hb⟩
theorem pvalue_any (s:ByteArray) (fx:Bool) (w:World) (hs:s.size≤9000) (h3:Laid3 w) (h5:Laid5 w):Calls Tryz.prog 17 #[.string s,.bool fx] w fun e w'=>∃ (vk vn:Int) (vs:ByteArray) (A3:Option Addr) (n3 k3:Nat) (A4:Option Addr) (n4 k4:Nat) (x:Int),e=.returned (.tuple #[.agg #[.int .i64 vk,.int .i64 vn,.string vs,.slice A3 n3 k3,.slice A4 n4 k4],.int .i64 x])∧Res encV [.int .i64 0,.int .i64 0,.string ⟨#[]⟩,.slice none 0 0,.slice none 0 0] w w' (wholeA (valD fx 0) s.data.toList) x [.int .i64 vk,.int .i64 vn,.string vs,.slice A3 n3 k3,.slice A4 n4 k4]∧Below w.heap.size w w':=by
 suffices H:∀ Q:Ending→World→Prop,(∀ e w',(∃ (vk vn:Int) (vs:ByteArray) (A3:Option Addr) (n3 k3:Nat) (A4:Option Addr) (n4 k4:Nat) (x:Int),e=.returned (.tuple #[.agg #[.int .i64 vk,.int .i64 vn,.string vs,.slice A3 n3 k3,.slice A4 n4 k4],.int .i64 x])∧Res encV [.int .i64 0,.int .i64 0,.string ⟨#[]⟩,.slice none 0 0,.slice none 0 0] w w' (wholeA (valD fx 0) s.data.toList) x [.int .i64 vk,.int .i64 vn,.string vs,.slice A3 n3 k3,.slice A4 n4 k4]∧Below w.heap.size w w')→Q e w')→Calls Tryz.prog 17 #[.string s,.bool fx] w Q from H _ (fun _ _ h=>h)
 intro Q hQ
 have HQ:=Hd hQ
 have hmf:∀ (fn:Fn) (first cap:Array Value) (w:World),(Instr.makeFunc fn first cap).run Tryz.prog w=.ok (.func fn first cap) w:=fun _ _ _ _=>rfl
 have B0:=Hd (two_below' w (.cells #[.bool fx] 4) (.cells #[.int .i64 0,.int .i64 0,.string ⟨#[]⟩,.slice none 0 0,.slice none 0 0] 35))
 have Y:=Hd (two_heap w (.cells #[.bool fx] 4) (.cells #[.int .i64 0,.int .i64 0,.string ⟨#[]⟩,.slice none 0 0,.slice none 0 0] 35)).2
 have HB:=Hd (two_heap w (.cells #[.bool fx] 4) (.cells #[.int .i64 0,.int .i64 0,.string ⟨#[]⟩,.slice none 0 0,.slice none 0 0] 35)).1
 have hSZ:=Hd (show ((w.alloc (.cells #[.bool fx] 4)).alloc (.cells #[.int .i64 0,.int .i64 0,.string ⟨#[]⟩,.slice none 0 0,.slice none 0 0] 35)).heap.size=w.heap.size+2 by simp)
 clear hQ
 go_enter Tryz.func17,Tryz.ntmps17
 go_wp2_with fail
 refine (wholeV_any s _ fx w.heap.size HB.out hs (h3.below B0.out) (h5.below B0.out)).mono ?_
 rintro e w2 ⟨vk,vn,vs,A3,n3,k3,A4,n4,k4,x,rfl,hres,hb2⟩
 have hsz:=B0.out.size
 have Z:=Hd ((hb2.block (w.heap.size+1) (by simp)).trans Y.out)
 have B2:=Hd (B0.out.trans (hb2.mono hsz))
 have RS:=Hd hres
 have hs2:=hb2.size
 obtain ⟨j0,j1,j2,j3,j4,kz⟩:=gfv_cells Z.out
 have kf0:=kz 0
 have kf1:=kz 1
 have kf2:=kz 2
 have kf3:=kz 3
 have kf4:=kz 4
 clear kz hres
 go_wp2_with fail
 have f1:=setAll_row (b:=w.heap.size+1) (t:=35) (ys:=[.int .i64 0,.int .i64 0,.string ⟨#[]⟩,.slice none 0 0,.slice none 0 0]) (xs:=[.int .i64 vk,.int .i64 vn,.string vs,.slice A3 n3 k3,.slice A4 n4 k4]) rfl Z.out
 have f3:=below_setAll (B:=w.heap.size) (b:=w.heap.size+1) (by omega) [.int .i64 vk,.int .i64 vn,.string vs,.slice A3 n3 k3,.slice A4 n4 k4] 0 _ B2.out
 have hz:(setAll w2 (w.heap.size+1) 0 [.int .i64 vk,.int .i64 vn,.string vs,.slice A3 n3 k3,.slice A4 n4 k4]).heap.size=w2.heap.size:=setAll_size _ _ _ _
 have hko:∀ k,(w.heap.size+1)+1≤k→k < w2.heap.size→(setAll w2 (w.heap.size+1) 0 [.int .i64 vk,.int .i64 vn,.string vs,.slice A3 n3 k3,.slice A4 n4 k4]).heap[k]? = w2.heap[k]?:=fun k hk _=>setAll_other (by omega) _ _ _
 exact ret_st2 rfl rfl rfl rfl f1 Tryz.underlying35 ⟨_,rfl⟩ (by kernel_rfl) (HQ.out _ _ ⟨vk,vn,vs,A3,n3,k3,A4,n4,k4,x,rfl,res_up RS.out hsz (Nat.le_of_eq hz.symm) (fun k hk hk2=>hko k (Nat.le_trans (Nat.le_of_eq hSZ.out.symm) hk) hk2),f3⟩)
end Go.Proofs.YtpkmbhnikilihaaGreatDoor
