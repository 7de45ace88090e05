/- The document's reader (seineref6.P): what it holds; the walks of its smallest functions. -/
import Derived.Test.YtpkmbhnikilihaaGreatDoorQr21
import Derived.WalkSmall
set_option maxRecDepth 100000
set_option maxHeartbeats 4000000
namespace Go.Proofs.YtpkmbhnikilihaaGreatDoor
open Go.RowKit
variable {nT:Nat}
def RP (nT:Nat) (w:World) (r d:Nat) (S:StP):Prop:=∃ (A:Option Addr) (c p:Nat) (dd x:Int) (all:List Tok),
 w.heap[r]? = some (.cells #[.slice A all.length c,.int .i64 p,.int .i64 dd,.int .i64 x] 81 (0,0))∧all.length≤200000∧p≤all.length∧Ef w r A all∧all.length=nT ∧
 (match S with | .ok ts=>x=0∧dd=d∧ts=all.drop p | .error y=>x=y∧y ≠ 0)
theorem RP.lt {w:World} {r d:Nat} {S:StP} (h:RP nT w r d S):r < w.heap.size:=by
 obtain ⟨_,_,_,_,_,_,h,_⟩:=h
 exact (Array.getElem?_eq_some_iff.1 h).1
theorem RP.below {w w':World} {r d:Nat} {S:StP} (h:RP nT w r d S) (hb:Below w.heap.size w w'):RP nT w' r d S:=by
 have hl:=h.lt
 obtain ⟨A,c,p,dd,x,all,h0,h1,h2,h3,h5,h4⟩:=h
 exact ⟨A,c,p,dd,x,all,(hb.block r hl).trans h0,h1,h2,h3.moved (Z0.of_below hb) hl,h5,h4⟩
theorem RP.set {w:World} {r b i d:Nat} {v:Value} {S:StP} (h:RP nT w r d S) (hb:r < b):RP nT (w.setCell ⟨b,i,none⟩ v) r d S:=by
 obtain ⟨A,c,p,dd,x,all,h0,h1,h2,h3,h5,h4⟩:=h
 refine ⟨A,c,p,dd,x,all,(Below.heap_setCell _ _ _ _ (by show r ≠ b;omega)).trans h0,h1,h2,fun j t ht=>?_,h5,h4⟩
 obtain ⟨k,o,e,hx,g0,g1⟩:=h3 j t ht
 have hs:(w.setCell ⟨b,i,none⟩ v).heap[k]? = w.heap[k]?:=Below.heap_setCell _ _ _ _ (by show k ≠ b;omega)
 exact ⟨k,o,e,hx,(World.cell?_of_block (a:=⟨k,o+j*2,none⟩) hs).trans g0,(World.cell?_of_block (a:=⟨k,o+j*2+1,none⟩) hs).trans g1⟩
theorem RP.err {w:World} {r d d':Nat} {y:Int} (h:RP nT w r d (.error y)):RP nT w r d' (.error y):=h
theorem Bo {w:World} {r i:Nat} {v:Value} {A:Option Addr} {all:List Tok} (h3:Ef w r A all):Ef (w.setCell ⟨r,i,none⟩ v) r A all:=fun j t ht=>by
 obtain ⟨k,o,e,hx,g0,g1⟩:=h3 j t ht
 have hs:(w.setCell ⟨r,i,none⟩ v).heap[k]? = w.heap[k]?:=Below.heap_setCell _ _ _ _ (by show k ≠ r;omega)
 exact ⟨k,o,e,hx,(World.cell?_of_block (a:=⟨k,o+j*2,none⟩) hs).trans g0,(World.cell?_of_block (a:=⟨k,o+j*2+1,none⟩) hs).trans g1⟩
theorem Eo {B b i:Nat} {w W:World} {v:Value} (h:Below B w W) (hb:B≤b):Below B w (W.setCell ⟨b,i,none⟩ v):=h.setCell (p:=⟨b,i,none⟩) hb v
theorem Fw (r d:Nat) (S:StP) (w:World) (h:RP nT w r d S):Calls Tryz.prog 107 #[.pointer (some ⟨r,0,none⟩)] w fun e w'=>e=.returned (.agg #[.int .i64 (V6 S).1,.string (V6 S).2])∧Below w.heap.size w w':=by
 obtain ⟨A,c,p,dd,x,all,h0,h1,h2,h3,h5,h4⟩:=h
 have hr:=(Array.getElem?_eq_some_iff.1 h0).1
 have B1:=Hd (blw w (.cells #[.int .i64 0,.string ⟨#[]⟩] 70))
 have Z1:=Hd (heap_alloc_last w (.cells #[.int .i64 0,.string ⟨#[]⟩] 70))
 obtain ⟨c0,c1,c2,c3,cz⟩:=Z8 ((B1.out.block r hr).trans h0)
 have HL:=Hd (And.intro h1 h2)
 have H3:=Hd h3
 rcases S with y|ts
 · obtain ⟨rfl,hy⟩:=h4
   have t1:(x != 0)=true:=by simpa using hy
   clear h0 h1 h2 h3 hy cz
   go_enter Tryz.func107,Tryz.ntmps107
   go_wp2_with fail
   go_quiet (fail)
   go_wp2_with fail
   refine Wb rfl rfl rfl (heap_setCell_same _ _ 1 _ _ _ (heap_setCell_same _ _ 0 _ _ _ Z1.out)) ⟨rfl,?_⟩
   exact Eo (Eo ((B1.out.trans ⟨rfl,rfl,rfl,Nat.le_refl _,fun _ _=>rfl⟩)) (Nat.le_refl _)) (Nat.le_refl _)
 · obtain ⟨rfl,rfl,rfl⟩:=h4
   by_cases hp:p < all.length
   · have hp2:decide ((all.length:Int)≤(p:Int))=false:=by simp;omega
     have hp3:(p:Int) < (all.length:Int):=by omega
     have hp4:(0:Int)≤(p:Int):=by omega
     have hpk:Hid (V6 (.ok (all.drop p))=all[p]):=Hd (by rw [List.drop_eq_getElem_cons hp];rfl)
     obtain ⟨b,o,hA,hb,g0,g1⟩:=h3 p all[p] (List.getElem?_eq_getElem hp)
     obtain ⟨t,ht⟩:∃ t,all[p]=t:=⟨_,rfl⟩
     rw [ht] at hpk g0 g1
     obtain ⟨tk,tx⟩:=t
     subst hA
     have f0:=(B1.out.cell (p:=⟨b,_,none⟩) (show b < w.heap.size by omega)).trans g0
     have f1:=(B1.out.cell (p:=⟨b,_,none⟩) (show b < w.heap.size by omega)).trans g1
     obtain ⟨n,hn⟩:∃ n,all.length=n:=⟨_,rfl⟩
     rw [hn] at hp2 hp3 c0
     clear h0 h1 h2 h3 cz g0 g1 ht hp hn
     go_enter Tryz.func107,Tryz.ntmps107
     go_wp2_with fail
     go_quiet (fail)
     go_wp2_with fail
     go_region
     go_wp2_with fail
     refine Wb rfl rfl rfl (heap_setCell_same _ _ 1 _ _ _ (heap_setCell_same _ _ 0 _ _ _ Z1.out)) ⟨by rw [hpk.out],?_⟩
     exact Eo (Eo ((B1.out.trans ⟨rfl,rfl,rfl,Nat.le_refl _,fun _ _=>rfl⟩)) (Nat.le_refl _)) (Nat.le_refl _)
   · have hp2:decide ((all.length:Int)≤(p:Int))=true:=by simp;omega
     have hpk:Hid (V6 (.ok (all.drop p))=(0,⟨#[]⟩)):=Hd (by rw [List.drop_eq_nil_of_le (by omega)];rfl)
     clear h0 h1 h2 h3 cz
     go_enter Tryz.func107,Tryz.ntmps107
     go_wp2_with fail
     go_quiet (fail)
     go_wp2_with fail
     refine Wb rfl rfl rfl (heap_setCell_same _ _ 1 _ _ _ (heap_setCell_same _ _ 0 _ _ _ Z1.out)) ⟨by rw [hpk.out],?_⟩
     exact Eo (Eo ((B1.out.trans ⟨rfl,rfl,rfl,Nat.le_refl _,fun _ _=>rfl⟩)) (Nat.le_refl _)) (Nat.le_refl _)
variable {nT:Nat}
def inS (d:Nat) (x dd:Int):StP→Prop
 | .ok _=>x=0∧dd=d
 | .error y=>x=y∧y ≠ 0
theorem RP.cells {w:World} {r d:Nat} {S:StP} (h:RP nT w r d S):∃ (A:Option Addr) (n c p:Nat) (dd x:Int),w.heap[r]? = some (.cells #[.slice A n c,.int .i64 p,.int .i64 dd,.int .i64 x] 81 (0,0))∧p≤200000∧inS d x dd S:=by
 obtain ⟨A,c,p,dd,x,all,h0,h1,h2,h3,h5,h4⟩:=h
 refine ⟨A,_,c,p,dd,x,h0,by omega,?_⟩
 rcases S with y|ts
 · exact h4
 · exact ⟨h4.1,h4.2.1⟩
theorem RP.fails {w:World} {r d:Nat} {ts:List Tok} {x:Int} (hx:x ≠ 0) (h:RP nT w r d (.ok ts)):RP nT (w.setCell ⟨r,3,none⟩ (.int .i64 x)) r d (.error x):=by
 obtain ⟨A,c,p,dd,x',all,h0,h1,h2,h3,h5,h4⟩:=h
 exact ⟨A,c,p,dd,x,all,heap_setCell_same _ _ 3 _ _ _ h0,h1,h2,Bo h3,h5,rfl,hx⟩
theorem RP.advance {w:World} {r d p n c:Nat} {A:Option Addr} {dd x:Int} {t:Tok} {ts:List Tok} (h:RP nT w r d (.ok (t :: ts))) (h0:w.heap[r]? = some (.cells #[.slice A n c,.int .i64 p,.int .i64 dd,.int .i64 x] 81 (0,0))):RP nT (w.setCell ⟨r,1,none⟩ (.int .i64 ((p:Int)+1))) r d (.ok ts):=by
 obtain ⟨A',c',p',dd',x',all,h0',h1,h2,h3,h5,h4⟩:=h
 rw [h0] at h0'
 have e:=Option.some.inj h0'
 injection e with e _ _
 injection e with e
 injection e with e1 e
 injection e with e2 e
 injection e with e3 e
 injection e with e4 _
 injection e1 with e1 e5 e6
 injection e2 with _ e2
 injection e3 with _ e3
 injection e4 with _ e4
 have e2:p=p':=by omega
 subst e1 e5 e6 e2 e3 e4
 obtain ⟨g1,g2,g3⟩:=h4
 have hlt:p < all.length:=by
  by_cases hp:p < all.length
  · exact hp
  · rw [List.drop_eq_nil_of_le (by omega)] at g3;cases g3
 rw [List.drop_eq_getElem_cons hlt] at g3
 refine ⟨A,c,p+1,dd,x,all,heap_setCell_same _ _ 1 _ _ _ h0,h1,hlt,Bo h3,h5,g1,g2,(List.cons.inj g3).2⟩
theorem RP.deeper {w:World} {r d d' p n c:Nat} {A:Option Addr} {dd x v:Int} {S:StP} (h:RP nT w r d S) (h0:w.heap[r]? = some (.cells #[.slice A n c,.int .i64 p,.int .i64 dd,.int .i64 x] 81 (0,0))) (hv:∀ ts,S=.ok ts→v=d'):RP nT (w.setCell ⟨r,2,none⟩ (.int .i64 v)) r d' S:=by
 obtain ⟨A',c',p',dd',x',all,h0',h1,h2,h3,h5,h4⟩:=h
 rw [h0] at h0'
 have e:=Option.some.inj h0'
 injection e with e _ _
 injection e with e
 injection e with e1 e
 injection e with e2 e
 injection e with e3 e
 injection e with e4 _
 injection e1 with e1 e5 e6
 injection e2 with _ e2
 injection e3 with _ e3
 injection e4 with _ e4
 have e2:p=p':=by omega
 subst e1 e5 e6 e2 e3 e4
 refine ⟨A,c,p,v,x,all,heap_setCell_same _ _ 2 _ _ _ h0,h1,h2,Bo h3,h5,?_⟩
 rcases S with y|ts
 · exact h4
 · exact ⟨h4.1,hv ts rfl,h4.2.2⟩
theorem ris (r d:Nat) (S:StP) (s:ByteArray) (w:World) (h:RP nT w r d S):Calls Tryz.prog 103 #[.pointer (some ⟨r,0,none⟩),.string s] w fun e w'=>e=.returned (.bool (isS 1 s S))∧Below w.heap.size w w':=by
 have HP:=Hd (Fw r d S w h)
 have HI:=Hd (Zj7 1 s S (by decide))
 obtain ⟨q,hq⟩:∃ q,V6 S=q:=⟨_,rfl⟩
 rw [hq] at HP HI
 clear hq
 obtain ⟨tk,tx⟩:=q
 dsimp only at HP HI
 go_enter Tryz.func103,Tryz.ntmps103
 go_wp2_with fail
 refine HP.out.mono ?_
 rintro e w1 ⟨rfl,hb1⟩
 have B1:=Hd hb1
 clear hb1
 go_wp2_with fail
 all_goals
  go_ret
  exact ⟨Yy (by rw [HI.out];simp [*]),B1.out.alloc B1.out.size _⟩
theorem O8 (r d:Nat) (S:StP) (s:ByteArray) (w:World) (h:RP nT w r d S):Calls Tryz.prog 105 #[.pointer (some ⟨r,0,none⟩),.string s] w fun e w'=>e=.returned (.bool (isS 2 s S))∧Below w.heap.size w w':=by
 have HP:=Hd (Fw r d S w h)
 have HI:=Hd (Zj7 2 s S (by decide))
 obtain ⟨q,hq⟩:∃ q,V6 S=q:=⟨_,rfl⟩
 rw [hq] at HP HI
 clear hq
 obtain ⟨tk,tx⟩:=q
 dsimp only at HP HI
 go_enter Tryz.func105,Tryz.ntmps105
 go_wp2_with fail
 refine HP.out.mono ?_
 rintro e w1 ⟨rfl,hb1⟩
 have B1:=Hd hb1
 clear hb1
 go_wp2_with fail
 all_goals
  go_ret
  exact ⟨Yy (by rw [HI.out];simp [*]),B1.out.alloc B1.out.size _⟩
theorem Rm (r d:Nat) (S:StP) (x:Int) (hx:x ≠ 0) (w:World) (h:RP nT w r d S):Calls Tryz.prog 111 #[.pointer (some ⟨r,0,none⟩),.int .i64 x] w fun e w'=>e=.returned (.tuple #[])∧RP nT w' r d (B7 x S)∧Z0 r w w':=by
 have H:=Hd h
 obtain ⟨A,n,c,p,dd,x0,h0,h1,h2⟩:=h.cells
 obtain ⟨c0,c1,c2,c3,cz⟩:=Z8 h0
 have z3:=cz 3
 have HX:=Hd hx
 clear cz h hx
 rcases S with y|ts
 · obtain ⟨rfl,hy⟩:=h2
   have t1:(x0 == 0)=false:=by simpa using hy
   clear h0 h1 hy
   go_enter Tryz.func111,Tryz.ntmps111
   go_wp2_with fail
   go_end0
   exact ⟨rfl,H.out,Z0.refl _ _⟩
 · obtain ⟨rfl,rfl⟩:=h2
   clear h0 h1
   go_enter Tryz.func111,Tryz.ntmps111
   go_wp2_with fail
   go_end0
   exact ⟨rfl,H.out.fails HX.out,Z0.set⟩
theorem Id (r d:Nat) (S:StP) (s:ByteArray) (w:World) (h:RP nT w r d S):Calls Tryz.prog 123 #[.pointer (some ⟨r,0,none⟩),.string s] w fun e w'=>e=.returned (.tuple #[])∧RP nT w' r d (tkS s S)∧Z0 r w w':=by
 have HI:=Hd (ris r d S s w h)
 have H:=Hd h
 cases hb:isS 1 s S with
 | false =>
   rw [hb] at HI
   have HT:=Hd (Rb hb)
   have HF:=fun wx (hb:Below w.heap.size w wx)=>Hd (Rm r d S 2 (by decide) wx (H.out.below hb))
   clear hb h
   go_enter Tryz.func123,Tryz.ntmps123
   go_wp2_with fail
   refine HI.out.mono ?_
   rintro e w1 ⟨rfl,hb1⟩
   have B1:=Hd hb1
   clear hb1
   go_wp2_with fail
   refine (HF _ B1.out).out.mono ?_
   rintro e w2 ⟨rfl,h2,m2⟩
   have H2:=Hd (And.intro h2 ((Z0.of_below (r:=r) B1.out).trans m2))
   clear h2 m2
   go_wp2_with fail
   refine bodyPost_ret (results_none rfl _ _ _) rfl ?_
   exact ⟨rfl,by rw [HT.out];exact H2.out.1,H2.out.2⟩
 | true =>
   rw [hb] at HI
   obtain ⟨t,ts,rfl,e2⟩:=Xh hb
   have HT:=Hd e2
   clear hb h e2
   go_enter Tryz.func123,Tryz.ntmps123
   go_wp2_with fail
   refine HI.out.mono ?_
   rintro e w1 ⟨rfl,hb1⟩
   have B1:=Hd hb1
   have H1:=Hd (H.out.below hb1)
   obtain ⟨A,n,c,p,dd,x0,h0,h1,h2⟩:=H1.out.cells
   have h9:=Hd h0
   obtain ⟨c0,c1,c2,c3,cz⟩:=Z8 h0
   have z1:=cz 1
   clear cz hb1 h0
   go_wp2_with fail
   go_end0
   exact ⟨rfl,by rw [HT.out];exact H1.out.advance h9.out,(Z0.of_below B1.out).trans Z0.set⟩
theorem L2 (r d:Nat) (S:StP) (w:World) (h:RP nT w r d S):Calls Tryz.prog 106 #[.pointer (some ⟨r,0,none⟩)] w fun e w'=>e=.returned (.string (nmV S))∧RP nT w' r d (nmS S)∧Z0 r w w':=by
 have HP:=Hd (Fw r d S w h)
 have HW:=Lo S
 have H:=Hd h
 cases hb:F2 S with
 | false =>
   obtain ⟨e1,e2⟩:=Yd9 hb
   have HT:=Hd (And.intro e1 e2)
   rw [hb] at HW
   have hne:((V6 S).1 != 2)=true:=by simp [bne,← HW]
   obtain ⟨q,hq⟩:∃ q,V6 S=q:=⟨_,rfl⟩
   rw [hq] at HP hne
   clear hq
   obtain ⟨tk,tx⟩:=q
   dsimp only at HP hne
   have HF:=fun wx (hb:Below w.heap.size w wx)=>Hd (Rm r d S 2 (by decide) wx (H.out.below hb))
   clear hb h e1 e2 HW
   go_enter Tryz.func106,Tryz.ntmps106
   go_wp2_with fail
   refine HP.out.mono ?_
   rintro e w1 ⟨rfl,hb1⟩
   have B1:=Hd hb1
   have B2:=Hd (hb1.alloc hb1.size (.cells #[.int .i64 tk,.string tx] 70))
   clear hb1
   go_wp2_with fail
   refine (HF _ B2.out).out.mono ?_
   rintro e w2 ⟨rfl,h2,m2⟩
   have H2:=Hd (And.intro h2 ((Z0.of_below (r:=r) B2.out).trans m2))
   clear h2 m2
   go_wp2_with fail
   go_ret
   exact ⟨by rw [HT.out.1];rfl,by rw [HT.out.2];exact H2.out.1,H2.out.2⟩
 | true =>
   obtain ⟨t,ts,rfl,e1,e2⟩:=Wl hb
   have HT:=Hd (And.intro e1 e2)
   obtain ⟨tk,tx⟩:=t
   have hne:(tk != 2)=false:=by
    have:(tk == 2)=true:=hb
    simp [bne,this]
   have HP:=Hd (show Calls Tryz.prog 107 #[.pointer (some ⟨r,0,none⟩)] w fun e w'=>e=.returned (.agg #[.int .i64 tk,.string tx])∧Below w.heap.size w w' from HP.out)
   clear hb h e1 e2 HW
   go_enter Tryz.func106,Tryz.ntmps106
   go_wp2_with fail
   refine HP.out.mono ?_
   rintro e w1 ⟨rfl,hb1⟩
   have B2:=Hd (hb1.alloc hb1.size (.cells #[.int .i64 tk,.string tx] 70))
   have Z2:=Hd (heap_alloc_last w1 (.cells #[.int .i64 tk,.string tx] 70))
   have H1:=Hd (H.out.below B2.out)
   have hr:=H.out.lt
   have hs:=hb1.size
   obtain ⟨A,n,c,p,dd,x0,h0,h1,h2⟩:=H1.out.cells
   have h9:=Hd h0
   obtain ⟨c0,c1,c2,c3,cz⟩:=Z8 h0
   have z1:=cz 1
   have hne2:w1.heap.size ≠ r:=by omega
   clear cz hb1 h0
   go_wp2_with fail
   go_ret
   exact ⟨by rw [HT.out.1];rfl,by rw [HT.out.2];exact H1.out.advance h9.out,(Z0.of_below B2.out).trans Z0.set⟩
theorem Bv {d:Nat} {s:ByteArray} {S:StP} (h:isS 1 s S=true) (hd:d=16):Li d s S=.error 4:=by unfold Li;rw [if_pos ⟨h,hd⟩]
theorem Od {d:Nat} {s:ByteArray} {S:StP} (h : ¬ (isS 1 s S=true∧d=16)):Li d s S=tkS s S:=by unfold Li;rw [if_neg h]
theorem Yhb (d:Nat) (hd:d≤16):wrap64 ((d:Int)+1)=((d+1:Nat):Int):=by
 unfold wrap64
 omega
theorem Yh4 (d:Nat) (hd:d≤16):wrap64 (((d+1:Nat):Int) - 1)=(d:Int):=by
 unfold wrap64
 omega
theorem Yik (r d:Nat) (S:StP) (s:ByteArray) (w:World) (hd:d≤16) (h:RP nT w r d S):Calls Tryz.prog 124 #[.pointer (some ⟨r,0,none⟩),.string s] w fun e w'=>e=.returned (.tuple #[])∧RP nT w' r (d+1) (Li d s S)∧Z0 r w w':=by
 have HI:=Hd (ris r d S s w h)
 have H:=Hd h
 have HT:=fun wx (hb:Below w.heap.size w wx)=>Hd (Id r d S s wx (H.out.below hb))
 cases hb:isS 1 s S with
 | false =>
   rw [hb] at HI
   have HE:=Hd (Od (d:=d) (s:=s) (S:=S) (by rw [hb];simp))
   have HK:=Hd (Rb hb)
   clear hb h
   go_enter Tryz.func124,Tryz.ntmps124
   go_wp2_with fail
   refine HI.out.mono ?_
   rintro e w1 ⟨rfl,hb1⟩
   have B1:=Hd hb1
   clear hb1
   go_wp2_with fail
   refine (HT _ B1.out).out.mono ?_
   rintro e w2 ⟨rfl,h2,m2⟩
   have H2:=Hd h2
   have M2:=Hd ((Z0.of_below (r:=r) B1.out).trans m2)
   obtain ⟨A,n,c,p,dd,x0,h0,h1,_⟩:=h2.cells
   have h9:=Hd h0
   obtain ⟨c0,c1,c2,c3,cz⟩:=Z8 h0
   have z2:=cz 2
   clear cz m2 h0 h2
   go_wp2_with fail
   go_end0
   refine ⟨rfl,?_,M2.out.trans Z0.set⟩
   rw [HE.out]
   refine H2.out.deeper h9.out (fun ts e=>?_)
   rw [HK.out] at e
   rcases S with y|us<;>cases e
 | true =>
   rw [hb] at HI
   obtain ⟨t,ts,rfl,e2⟩:=Xh hb
   by_cases h16:d=16
   · subst h16
     have HE:=Hd (Bv hb rfl)
     have HF:=fun wx (hb:Below w.heap.size w wx)=>Hd (Rm r 16 (.ok (t :: ts)) 4 (by decide) wx (H.out.below hb))
     clear hb h e2 HT
     go_enter Tryz.func124,Tryz.ntmps124
     go_wp2_with fail
     refine HI.out.mono ?_
     rintro e w1 ⟨rfl,hb1⟩
     have B1:=Hd hb1
     obtain ⟨A,n,c,p,dd,x0,h0,h1,_,rfl⟩:=(H.out.below hb1).cells
     obtain ⟨c0,c1,c2,c3,cz⟩:=Z8 h0
     clear hb1 cz h0
     go_wp2_with fail
     refine (HF _ B1.out).out.mono ?_
     rintro e w2 ⟨rfl,h2,m2⟩
     have H2:=Hd (And.intro h2 ((Z0.of_below (r:=r) B1.out).trans m2))
     clear h2 m2
     go_wp2_with fail
     refine bodyPost_ret (results_none rfl _ _ _) rfl ?_
     exact ⟨rfl,by rw [HE.out];exact RP.err H2.out.1,H2.out.2⟩
   · have HE:=Hd (Od (d:=d) (s:=s) (S:=.ok (t :: ts)) (fun h=>h16 h.2))
     have hlt:decide ((16:Int)≤(d:Int))=false:=by simp;omega
     clear hb h e2
     go_enter Tryz.func124,Tryz.ntmps124
     go_wp2_with fail
     refine HI.out.mono ?_
     rintro e w1 ⟨rfl,hb1⟩
     have B1:=Hd hb1
     obtain ⟨A,n,c,p,dd,x0,h0,h1,_,rfl⟩:=(H.out.below hb1).cells
     obtain ⟨c0,c1,c2,c3,cz⟩:=Z8 h0
     clear hb1 cz h0
     go_wp2_with fail
     refine (HT _ B1.out).out.mono ?_
     rintro e w2 ⟨rfl,h2,m2⟩
     have H2:=Hd h2
     have M2:=Hd ((Z0.of_below (r:=r) B1.out).trans m2)
     obtain ⟨A',n',c',p',dd',x0',h0',h1',h2'⟩:=h2.cells
     have h9:=Hd h0'
     have hin:=Hd h2'
     obtain ⟨k0,k1,k2,k3,kz⟩:=Z8 h0'
     have z2:=kz 2
     clear kz m2 h0' h2 h2' c0 c1 c2 c3
     go_wp2_with fail
     go_end0
     refine ⟨rfl,?_,M2.out.trans Z0.set⟩
     rw [HE.out]
     refine H2.out.deeper h9.out (fun us e=>?_)
     have hi:=hin.out
     rw [e] at hi
     obtain ⟨_,rfl⟩:=hi
     exact Yhb d hd
theorem Zvn (r d:Nat) (S:StP) (s:ByteArray) (w:World) (hd:d≤16) (h:RP nT w r (d+1) S):Calls Tryz.prog 125 #[.pointer (some ⟨r,0,none⟩),.string s] w fun e w'=>e=.returned (.tuple #[])∧RP nT w' r d (tkS s S)∧Z0 r w w':=by
 have HT:=Hd (Id r (d+1) S s w h)
 clear h
 go_enter Tryz.func125,Tryz.ntmps125
 go_wp2_with fail
 refine HT.out.mono ?_
 rintro e w2 ⟨rfl,h2,m2⟩
 have H2:=Hd h2
 have M2:=Hd m2
 obtain ⟨A',n',c',p',dd',x0',h0',h1',h2'⟩:=h2.cells
 have h9:=Hd h0'
 have hin:=Hd h2'
 obtain ⟨k0,k1,k2,k3,kz⟩:=Z8 h0'
 have z2:=kz 2
 clear kz m2 h0' h2 h2'
 go_wp2_with fail
 go_end0
 refine ⟨rfl,?_,M2.out.trans Z0.set⟩
 refine H2.out.deeper h9.out (fun us e=>?_)
 have hi:=hin.out
 rw [e] at hi
 obtain ⟨_,rfl⟩:=hi
 exact Yh4 d hd
theorem Ymg (r d:Nat) (S:StP) (w:World) (h:RP nT w r d S):Calls Tryz.prog 110 #[.pointer (some ⟨r,0,none⟩)] w fun e w'=>e=.returned (.string (nmV (Ue S)))∧RP nT w' r d (nmS (Ue S))∧Z0 r w w':=by
 have HI:=Hd (O8 r d S onB w h)
 have H:=Hd h
 cases hb:isS 2 onB S with
 | false =>
   rw [hb] at HI
   have HE:=Hd (show Ue S=S by unfold Ue;rw [hb];rfl)
   have HN:=fun wx (hb:Below w.heap.size w wx)=>Hd (L2 r d S wx (H.out.below hb))
   clear hb h
   go_enter Tryz.func110,Tryz.ntmps110
   go_wp2_with fail
   refine HI.out.mono ?_
   rintro e w1 ⟨rfl,hb1⟩
   have B1:=Hd hb1
   clear hb1
   go_wp2_with fail
   refine (HN _ B1.out).out.mono ?_
   rintro e w2 ⟨rfl,h2,m2⟩
   have H2:=Hd (And.intro h2 ((Z0.of_below (r:=r) B1.out).trans m2))
   clear h2 m2
   go_wp2_with fail
   go_ret
   exact ⟨by rw [HE.out];rfl,by rw [HE.out];exact H2.out.1,H2.out.2⟩
 | true =>
   rw [hb] at HI
   have HE:=Hd (show Ue S=B7 2 S by unfold Ue;rw [if_pos hb])
   have HF:=fun wx (hb:Below w.heap.size w wx)=>Hd (Rm r d S 2 (by decide) wx (H.out.below hb))
   clear hb h
   go_enter Tryz.func110,Tryz.ntmps110
   go_wp2_with fail
   refine HI.out.mono ?_
   rintro e w1 ⟨rfl,hb1⟩
   have B1:=Hd hb1
   clear hb1
   go_wp2_with fail
   refine (HF _ B1.out).out.mono ?_
   rintro e w2 ⟨rfl,h2,m2⟩
   have M2:=Hd ((Z0.of_below (r:=r) B1.out).trans m2)
   have HN:=Hd (L2 r d (B7 2 S) w2 h2)
   clear h2 m2
   go_wp2_with fail
   refine HN.out.mono ?_
   rintro e w3 ⟨rfl,h3,m3⟩
   have H3:=Hd (And.intro h3 (M2.out.trans m3))
   clear h3 m3
   go_wp2_with fail
   go_ret
   exact ⟨by rw [HE.out];rfl,by rw [HE.out];exact H3.out.1,H3.out.2⟩
variable {nT:Nat}
theorem RP.setAll {r b d:Nat} {S:StP} (hb:r < b):∀ (xs:List Value) (i:Nat) (W:World),RP nT W r d S→RP nT (setAll W b i xs) r d S
 | [],_,_,h=>h
 | x :: t,i,W,h=>by rw [Proofs.YtpkmbhnikilihaaGreatDoor.setAll];exact RP.setAll hb t _ _ (h.set hb)
structure Q0 (nT:Nat) (w:World) (r:Nat) (W:World) (o:Obj) (S:StP) (d:Nat):Prop where
 res:W.heap[w.heap.size]? = some o
 mv:Z0 r w W
 hr:r < w.heap.size
 rd:RP nT W r d S
theorem Q0.lt {w:World} {r:Nat} {W:World} {o:Obj} {S:StP} {d:Nat} (h:Q0 nT w r W o S d):w.heap.size < W.heap.size:=(Array.getElem?_eq_some_iff.1 h.res).1
theorem Q0.start {w:World} {r:Nat} {S:StP} {d:Nat} (hR:RP nT w r d S) (cs:Array Value) (t:TypeId):Q0 nT w r (w.alloc (.cells cs t)) (.cells cs t (0,0)) S d:=
 ⟨heap_alloc_new _ _,Z0.of_below (blw _ _),hR.lt,hR.below (blw _ _)⟩
theorem Q0.next {w:World} {r:Nat} {W W':World} {o:Obj} {S S':StP} {d d':Nat} (h:Q0 nT w r W o S d) (rd:RP nT W' r d' S') (m:Z0 r W W'):Q0 nT w r W' o S' d':=
 ⟨m.keep h.res (by have:=h.hr;omega),h.mv.trans m,h.hr,rd⟩
structure Q1 (nT:Nat) (w:World) (r:Nat) (W:World) (o:Obj) (b:Nat) (o1:Obj) (S:StP) (d:Nat):Prop where
 res:W.heap[w.heap.size]? = some o
 loc:W.heap[b]? = some o1
 bl:w.heap.size < b
 mv:Z0 r w W
 hr:r < w.heap.size
 rd:RP nT W r d S
theorem Q1.blt {w:World} {r:Nat} {W:World} {o:Obj} {b:Nat} {o1:Obj} {S:StP} {d:Nat} (h:Q1 nT w r W o b o1 S d):b < W.heap.size:=(Array.getElem?_eq_some_iff.1 h.loc).1
theorem Q1.rb {w:World} {r:Nat} {W:World} {o:Obj} {b:Nat} {o1:Obj} {S:StP} {d:Nat} (h:Q1 nT w r W o b o1 S d):r < b:=Nat.lt_trans h.hr h.bl
theorem Q1.of {w:World} {r:Nat} {W W':World} {o o1:Obj} {S:StP} {d:Nat} (h:Q0 nT w r W o S d) (hl:W'.heap[W.heap.size]? = some o1) (hb:Below W.heap.size W W'):Q1 nT w r W' o W.heap.size o1 S d:=
 ⟨(hb.block _ h.lt).trans h.res,hl,h.lt,h.mv.trans (Z0.of_below hb),h.hr,h.rd.below hb⟩
theorem Q1.make {w:World} {r:Nat} {W:World} {o:Obj} {S:StP} {d:Nat} (h:Q0 nT w r W o S d) (cs:Array Value) (t:TypeId):Q1 nT w r (W.alloc (.cells cs t)) o W.heap.size (.cells cs t (0,0)) S d:=
 Q1.of h (heap_alloc_new _ _) (blw _ _)
theorem Q1.next {w:World} {r:Nat} {W W':World} {o:Obj} {b:Nat} {o1:Obj} {S S':StP} {d d':Nat} (h:Q1 nT w r W o b o1 S d) (rd:RP nT W' r d' S') (m:Z0 r W W'):Q1 nT w r W' o b o1 S' d':=
 ⟨m.keep h.res (by have:=h.hr;omega),m.keep h.loc (by have:=h.rb;omega),h.bl,h.mv.trans m,h.hr,rd⟩
theorem Q1.put {w:World} {r:Nat} {W:World} {o:Obj} {b:Nat} {cs:Array Value} {t:TypeId} {S:StP} {d:Nat} (h:Q1 nT w r W o b (.cells cs t (0,0)) S d) (i:Nat) (v:Value):Q1 nT w r (W.setCell ⟨b,i,none⟩ v) o b (.cells (cs.setIfInBounds i v) t (0,0)) S d:=
 ⟨V9 h.res (by have:=h.bl;omega),heap_setCell_same _ _ _ _ _ _ h.loc,h.bl,h.mv.put (Nat.le_of_lt h.bl),h.hr,h.rd.set h.rb⟩
theorem Q1.fin {w:World} {r:Nat} {W:World} {ys:List Value} {t:TypeId} {b:Nat} {o1:Obj} {S:StP} {d:Nat} (h:Q1 nT w r W (.cells ys.toArray t (0,0)) b o1 S d) (xs:List Value) (hl:ys.length=xs.length) :
  (setAll W w.heap.size 0 xs).heap[w.heap.size]? = some (.cells xs.toArray t (0,0))∧RP nT (setAll W w.heap.size 0 xs) r d S∧Z0 r w (setAll W w.heap.size 0 xs):=
 ⟨Y9 hl h.res,RP.setAll h.hr _ _ _ h.rd,Z0.setAll (Nat.le_refl _) _ _ _ h.mv⟩
theorem Q0.fin {w:World} {r:Nat} {W:World} {ys:List Value} {t:TypeId} {S:StP} {d:Nat} (h:Q0 nT w r W (.cells ys.toArray t (0,0)) S d) (xs:List Value) (hl:ys.length=xs.length) :
  (setAll W w.heap.size 0 xs).heap[w.heap.size]? = some (.cells xs.toArray t (0,0))∧RP nT (setAll W w.heap.size 0 xs) r d S∧Z0 r w (setAll W w.heap.size 0 xs):=
 ⟨Y9 hl h.res,RP.setAll h.hr _ _ _ h.rd,Z0.setAll (Nat.le_refl _) _ _ _ h.mv⟩
def Ans {α:Type} (enc:α→TrS) (w w':World) (R:Except Int (α × List Tok)) (cs:List Value):Prop:=∃ x:TrS,TS w' (Zs w w') x cs∧∀ a ts,R=.ok (a,ts)→x=enc a
variable {nT:Nat}
def Zv7:Rdr Unit:=fun ts=>.ok ((),ts)
theorem Jn (S:StP):Yk (Za Zv7 S)=S:=by rcases S with y|ts<;>rfl
theorem Wq {α:Type} {f:Unit→α} {S:StP} {a:α} {ts:List Tok} (h:Eh f (Za Zv7 S)=.ok (a,ts)):S=.ok ts∧a=f ():=by
 rcases S with y|us
 · cases h
 · have:=Except.ok.inj h
   obtain ⟨h1,h2⟩:=Prod.mk.inj this
   exact ⟨by rw [← h2],h1.symm⟩
theorem Zkr {n:ByteArray} {l m:Nat} {S:StP} (h:isS 1 bB S=true):Za (Dc n l m) S=Eh (fun _=>(n,l,m ||| 1)) (Za Zv7 (tkS bB S)):=by
 obtain ⟨t,ts,rfl,h2⟩:=Xh h
 have h1:atB 1 bB (t :: ts)=true:=h
 rw [h2]
 simp only [Za,Dc,ifR,h1,if_true,Il,List.tail_cons]
 rfl
theorem Yai {n:ByteArray} {l m:Nat} {S:StP} (h:isS 1 bB S=false):Za (Dc n l m) S=Eh (fun _=>(n,l,m)) (Za Zv7 S):=by
 rcases S with y|ts
 · rfl
 · have h1:atB 1 bB ts=false:=h
   simp only [Za,Dc,ifR,h1,Bool.false_eq_true,if_false]
   rfl
theorem Yd1 {left:Nat} {S:StP} (h:isS 1 oB S=false):Za (Zl left) S=Za (Dc (nmV S) 0 0) (nmS S):=by
 rcases S with y|ts
 · rfl
 · have h1:atB 1 oB ts=false:=h
   have hx:Zl left ts=nmR (fun n=>Dc n 0 0) (Oy 2) ts:=by
    cases left with
    | zero=>rw [Co];simp only [ifR,h1,Bool.false_eq_true,if_false]
    | succ k=>rw [Df];simp only [ifR,h1,Bool.false_eq_true,if_false]
   show Zl left ts=_
   rw [hx]
   simp only [nmR,nmS,nmV]
   cases Zb ts<;>rfl
theorem Ydk {S:StP} (h:isS 1 oB S=true):Za (Zl 0) S=.error 4:=by
 obtain ⟨t,ts,rfl,_⟩:=Xh h
 have h1:atB 1 oB (t :: ts)=true:=h
 show Zl 0 (t :: ts)=_
 rw [Co]
 simp only [ifR,h1,if_true]
 rfl
theorem Yaz {left:Nat} {S:StP} (h:isS 1 oB S=true):Za (Zl (left+1)) S=Za (Dc (Uf (eB,0,0) (Za (Zl left) (tkS oB S))).1 ((Uf (eB,0,0) (Za (Zl left) (tkS oB S))).2.1+1) (2*(Uf (eB,0,0) (Za (Zl left) (tkS oB S))).2.2)) (tkS cB (Yk (Za (Zl left) (tkS oB S)))):=by
 obtain ⟨t,ts,rfl,h2⟩:=Xh h
 have h1:atB 1 oB (t :: ts)=true:=h
 rw [h2]
 show Zl (left+1) (t :: ts)=_
 rw [Df]
 simp only [ifR,h1,if_true,List.tail_cons,Zk,Za]
 cases Zl left ts with
 | error y=>rfl
 | ok a =>
   simp only [Yk,Uf]
   cases hc:atB 1 cB a.2 with
   | false=>rw [Rb (show isS 1 cB (.ok a.2)=false from hc)];rfl
   | true =>
     have e1:tkS cB (.ok a.2)=.ok a.2.tail:=by
      show (if atB 1 cB a.2=true then _ else _)=_
      rw [if_pos hc]
     rw [e1];rfl
theorem Pk {n:ByteArray} {l m:Nat} {ts:List Tok} (h:m < 2 ^ (l+1)):(Uh n l m ts).1.2.1=l∧(Uh n l m ts).1.2.2 < 2 ^ (l+1):=by
 unfold Uh
 split
 · refine ⟨rfl,?_⟩
   show m ||| 1 < _
   rw [Yhk]
   rw [Nat.pow_succ] at h ⊢
   omega
 · exact ⟨rfl,h⟩
theorem Yjf:∀ (left:Nat) (ts:List Tok) (t:ByteArray × Nat × Nat) (r:List Tok),Zl left ts=.ok (t,r)→t.2.1≤left∧t.2.2 < 2 ^ (t.2.1+1):=by
 intro left
 induction left with
 | zero =>
   intro ts t r h
   rw [Co] at h
   simp only [ifR,nmR] at h
   split at h
   · cases h
   · cases hn:Zb ts with
     | none=>rw [hn] at h;cases h
     | some a =>
       rw [hn] at h
       simp only at h
       rw [G9] at h
       have h:=Except.ok.inj h
       obtain ⟨b1,b2⟩:=Pk (n:=a.1) (l:=0) (m:=0) (ts:=a.2) (by decide)
       rw [h] at b1 b2
       exact ⟨by rw [b1];exact Nat.le_refl _,by rw [b1];exact b2⟩
 | succ k ih =>
   intro ts t r h
   rw [Df] at h
   simp only [ifR,nmR,Zk] at h
   split at h
   · cases ht:Zl k ts.tail with
     | error y=>rw [ht] at h;cases h
     | ok p =>
       rw [ht] at h
       simp only at h
       split at h
       · obtain ⟨i1,i2⟩:=ih _ p.1 p.2 ht
         rw [G9] at h
         have h:=Except.ok.inj h
         obtain ⟨b1,b2⟩:=Pk (n:=p.1.1) (l:=p.1.2.1+1) (m:=2*p.1.2.2) (ts:=p.2.tail) (by rw [Nat.pow_succ];omega)
         rw [h] at b1 b2
         exact ⟨by rw [b1];omega,by rw [b1];exact b2⟩
       · cases h
   · cases hn:Zb ts with
     | none=>rw [hn] at h;cases h
     | some a =>
       rw [hn] at h
       simp only at h
       rw [G9] at h
       have h:=Except.ok.inj h
       obtain ⟨b1,b2⟩:=Pk (n:=a.1) (l:=0) (m:=0) (ts:=a.2) (by decide)
       rw [h] at b1 b2
       exact ⟨by rw [b1];exact Nat.zero_le _,by rw [b1];exact b2⟩
abbrev tyZ:List Value:=[.string ⟨#[]⟩,.int .i64 0,.int .i64 0]
theorem Zy {w:World} {b:Nat} {z0 z1 z2:Value} {t:TypeId} (h:w.heap[b]? = some (.cells #[z0,z1,z2] t (0,0))):w.cell? ⟨b,0,none⟩=some z0∧w.cell? ⟨b,1,none⟩=some z1∧w.cell? ⟨b,2,none⟩=some z2∧∀ i,w.frozen? ⟨b,i,none⟩=false:=by
 refine ⟨?_,?_,?_,?_⟩<;>simp [World.cell?,World.frozen?,h]
def Yjv (S:StP) (n:ByteArray):Prop:=∀ B:Nat,(∀ ts,S=.ok ts→∀ t ∈ ts,t.2.size≤B)→n.size≤B
theorem Ybi (S:StP):Yjv S (nmV S):=fun B h=>by
 cases hw:F2 S with
 | true =>
   obtain ⟨t,ts,e,e2,_⟩:=Wl hw
   rw [e2]
   exact h _ e t (List.mem_cons_self ..)
 | false =>
   rw [(Yd9 hw).1]
   exact Nat.zero_le _
theorem Ya1 {s:ByteArray} {S:StP} {n:ByteArray} (h:Yjv (tkS s S) n):Yjv S n:=fun B hB=>h B (fun ts e t ht=>by
 rcases S with y|us
 · cases e
 · simp only [tkS] at e
   split at e
   · have e:=Except.ok.inj e
     subst e
     exact hB us rfl t (List.mem_of_mem_tail ht)
   · cases e)
def Ymh (nT:Nat) (left:Nat):Prop:=∀ (r d:Nat) (S:StP) (w:World),RP nT w r d S→Calls Tryz.prog 54 #[.pointer (some ⟨r,0,none⟩),.int .i64 ((4 - left:Nat):Int)] w fun e w'=>∃ (n:ByteArray) (l m:Int),e=.returned (.agg #[.string n,.int .i64 l,.int .i64 m])∧Yjv S n∧(∀ a ts,Za (Zl left) S=.ok (a,ts)→n=a.1∧l=a.2.1∧m=a.2.2)∧RP nT w' r d (Yk (Za (Zl left) S))∧Z0 r w w'
theorem T8 (left:Nat) (r d:Nat) (S:StP) (w:World) (h:RP nT w r d S) (hb:isS 1 oB S=false):Calls Tryz.prog 54 #[.pointer (some ⟨r,0,none⟩),.int .i64 ((4 - left:Nat):Int)] w fun e w'=>∃ (n:ByteArray) (l m:Int),e=.returned (.agg #[.string n,.int .i64 l,.int .i64 m])∧Yjv S n∧(∀ a ts,Za (Zl left) S=.ok (a,ts)→n=a.1∧l=a.2.1∧m=a.2.2)∧RP nT w' r d (Yk (Za (Zl left) S))∧Z0 r w w':=by
 have K0:=Hd (Q1.make (Q0.start h #[.string ⟨#[]⟩,.int .i64 0,.int .i64 0] 39) #[.string ⟨#[]⟩,.int .i64 0,.int .i64 0] 39)
 have hz:(w.alloc (.cells #[.string ⟨#[]⟩,.int .i64 0,.int .i64 0] 39)).heap.size=w.heap.size+1:=by simp
 rw [hz] at K0
 rw [Yd1 hb]
 have HI:=Hd (ris r d S oB _ K0.out.rd)
 rw [hb] at HI
 clear h hb hz
 go_enter Tryz.func54,Tryz.ntmps54
 go_wp2_with fail
 refine HI.out.mono ?_
 rintro e w1 ⟨rfl,hb1⟩
 have K1:=Hd (K0.out.next (K0.out.rd.below hb1) (Z0.of_below hb1))
 have HN:=Hd (L2 r d S w1 K1.out.rd)
 clear hb1
 go_wp2_with fail
 refine HN.out.mono ?_
 rintro e w2 ⟨rfl,h2,m2⟩
 have K2:=Hd (K1.out.next h2 m2)
 obtain ⟨y0,y1,y2,yz⟩:=Zy K2.out.loc
 have yf0:=yz 0
 have K3:=Hd (K2.out.put 0 (.string (nmV S)))
 have HB:=Hd (ris r d (nmS S) bB _ K3.out.rd)
 clear h2 m2 yz HN HI
 go_wp2_with fail
 cases hc:isS 1 bB (nmS S) with
 | false =>
   rw [hc] at HB
   have HC:=Hd hc
   refine HB.out.mono ?_
   rintro e w4 ⟨rfl,hb4⟩
   have K4:=Hd (K3.out.next (K3.out.rd.below hb4) (Z0.of_below hb4))
   obtain ⟨x0,x1,x2,xz⟩:=Zy K4.out.loc
   obtain ⟨q0,q1,q2,qz⟩:=Zy K4.out.res
   have qf0:=qz 0
   have qf1:=qz 1
   have qf2:=qz 2
   clear hb4 hc y0 y1 y2 yf0 xz qz
   go_wp2_with fail
   have F:=K4.out.fin (ys:=tyZ) [.string (nmV S),.int .i64 0,.int .i64 0] rfl
   refine Y8 (cs:=[.string (nmV S),.int .i64 0,.int .i64 0]) rfl rfl rfl F.1 Tryz.underlying39 ⟨_,rfl⟩ (by kernel_rfl) ?_
   rw [Yai HC.out,Yc,Jn]
   refine ⟨nmV S,0,0,rfl,Ybi S,fun a ts e=>?_,F.2.1,F.2.2⟩
   obtain ⟨_,rfl⟩:=Wq e
   exact ⟨rfl,rfl,rfl⟩
 | true =>
   rw [hc] at HB
   have HC:=Hd hc
   refine HB.out.mono ?_
   rintro e w4 ⟨rfl,hb4⟩
   have K4:=Hd (K3.out.next (K3.out.rd.below hb4) (Z0.of_below hb4))
   have HT:=Hd (Id r d (nmS S) bB w4 K4.out.rd)
   clear hb4 hc y0 y1 y2 yf0
   go_wp2_with fail
   refine HT.out.mono ?_
   rintro e w5 ⟨rfl,h5,m5⟩
   have K5:=Hd (K4.out.next h5 m5)
   obtain ⟨x0,x1,x2,xz⟩:=Zy K5.out.loc
   have xf2:=xz 2
   have K6:=Hd (K5.out.put 2 (.int .i64 1))
   obtain ⟨z0,z1,z2,zz⟩:=Zy K6.out.loc
   obtain ⟨q0,q1,q2,qz⟩:=Zy K6.out.res
   have qf0:=qz 0
   have qf1:=qz 1
   have qf2:=qz 2
   clear h5 m5 xz zz HT qz
   have hb1:bits .or .i64 0 1=1:=by decide
   go_wp2_with fail
   have F:=K6.out.fin (ys:=tyZ) [.string (nmV S),.int .i64 0,.int .i64 1] rfl
   refine Y8 (cs:=[.string (nmV S),.int .i64 0,.int .i64 1]) rfl rfl rfl F.1 Tryz.underlying39 ⟨_,rfl⟩ (by kernel_rfl) ?_
   rw [Zkr HC.out,Yc,Jn]
   refine ⟨nmV S,0,1,rfl,Ybi S,fun a ts e=>?_,F.2.1,F.2.2⟩
   obtain ⟨_,rfl⟩:=Wq e
   exact ⟨rfl,rfl,rfl⟩
theorem Yf2 (r d:Nat) (S:StP) (w:World) (h:RP nT w r d S) (hb:isS 1 oB S=true):Calls Tryz.prog 54 #[.pointer (some ⟨r,0,none⟩),.int .i64 4] w fun e w'=>∃ (n:ByteArray) (l m:Int),e=.returned (.agg #[.string n,.int .i64 l,.int .i64 m])∧Yjv S n∧(∀ a ts,Za (Zl 0) S=.ok (a,ts)→n=a.1∧l=a.2.1∧m=a.2.2)∧RP nT w' r d (Yk (Za (Zl 0) S))∧Z0 r w w':=by
 have K0:=Hd (Q1.make (Q0.start h #[.string ⟨#[]⟩,.int .i64 0,.int .i64 0] 39) #[.string ⟨#[]⟩,.int .i64 0,.int .i64 0] 39)
 have hz:(w.alloc (.cells #[.string ⟨#[]⟩,.int .i64 0,.int .i64 0] 39)).heap.size=w.heap.size+1:=by simp
 rw [hz] at K0
 have HI:=Hd (ris r d S oB _ K0.out.rd)
 rw [hb] at HI
 have HR:=Hd (Ydk hb)
 obtain ⟨t,ts,rfl,_⟩:=Xh hb
 clear h hb hz
 go_enter Tryz.func54,Tryz.ntmps54
 go_wp2_with fail
 refine HI.out.mono ?_
 rintro e w1 ⟨rfl,hb1⟩
 have K1:=Hd (K0.out.next (K0.out.rd.below hb1) (Z0.of_below hb1))
 have HF:=Hd (Rm r d (.ok (t :: ts)) 4 (by decide) w1 K1.out.rd)
 clear hb1
 go_wp2_with fail
 refine HF.out.mono ?_
 rintro e w2 ⟨rfl,h2,m2⟩
 have K2:=Hd (K1.out.next h2 m2)
 obtain ⟨x0,x1,x2,xz⟩:=Zy K2.out.loc
 obtain ⟨q0,q1,q2,qz⟩:=Zy K2.out.res
 have qf0:=qz 0
 have qf1:=qz 1
 have qf2:=qz 2
 clear h2 m2 xz qz
 go_wp2_with fail
 have F:=K2.out.fin (ys:=tyZ) [.string ⟨#[]⟩,.int .i64 0,.int .i64 0] rfl
 refine Y8 (cs:=[.string ⟨#[]⟩,.int .i64 0,.int .i64 0]) rfl rfl rfl F.1 Tryz.underlying39 ⟨_,rfl⟩ (by kernel_rfl) ?_
 rw [HR.out]
 refine ⟨⟨#[]⟩,0,0,rfl,fun _ _=>Nat.zero_le _,fun a ts e=>(by cases e),F.2.1,F.2.2⟩
theorem Ycr {s:ByteArray} {S:StP} {ts:List Tok} (h:tkS s S=.ok ts):∃ us,S=.ok us:=by
 rcases S with y|us
 · cases h
 · exact ⟨us,rfl⟩
theorem Yfi {left:Nat} (hl:left≤3) {S:StP} {n:ByteArray} {l m:Int} (hv:∀ a ts,Za (Zl left) S=.ok (a,ts)→n=a.1∧l=a.2.1∧m=a.2.2) {us:List Tok} (h:Yk (Za (Zl left) S)=.ok us) :
  n=(Uf (eB,0,0) (Za (Zl left) S)).1∧wrap64 (l+1)=(((Uf (eB,0,0) (Za (Zl left) S)).2.1+1:Nat):Int)∧wrap64 (m*2)=((2*(Uf (eB,0,0) (Za (Zl left) S)).2.2:Nat):Int)∧bits .or .i64 (wrap64 (m*2)) 1=((2*(Uf (eB,0,0) (Za (Zl left) S)).2.2 ||| 1:Nat):Int):=by
 obtain ⟨t,e,hz⟩:=J0 h
 obtain ⟨e1,e2,e3⟩:=hv _ _ e
 obtain ⟨vs,_,hp⟩:=Xs e
 obtain ⟨b1,b2⟩:=Yjf _ _ _ _ hp
 rw [hz]
 have b3:2 ^ (t.2.1+1)≤2 ^ 4:=Nat.pow_le_pow_right (by decide) (by omega)
 have hw:wrap64 (m*2)=((2*t.2.2:Nat):Int):=by unfold wrap64;omega
 refine ⟨e1,by unfold wrap64;omega,hw,?_⟩
 rw [hw]
 exact Yd8 (by omega)
theorem Yhg (left:Nat) (hl:left≤3) (IH:Ymh nT left) (r d:Nat) (S:StP) (w:World) (h:RP nT w r d S) (hb:isS 1 oB S=true):Calls Tryz.prog 54 #[.pointer (some ⟨r,0,none⟩),.int .i64 ((4 - (left+1):Nat):Int)] w fun e w'=>∃ (n:ByteArray) (l m:Int),e=.returned (.agg #[.string n,.int .i64 l,.int .i64 m])∧Yjv S n∧(∀ a ts,Za (Zl (left+1)) S=.ok (a,ts)→n=a.1∧l=a.2.1∧m=a.2.2)∧RP nT w' r d (Yk (Za (Zl (left+1)) S))∧Z0 r w w':=by
 have K0:=Hd (Q1.make (Q0.start h #[.string ⟨#[]⟩,.int .i64 0,.int .i64 0] 39) #[.string ⟨#[]⟩,.int .i64 0,.int .i64 0] 39)
 have hz:(w.alloc (.cells #[.string ⟨#[]⟩,.int .i64 0,.int .i64 0] 39)).heap.size=w.heap.size+1:=by simp
 rw [hz] at K0
 have HI:=Hd (ris r d S oB _ K0.out.rd)
 rw [hb] at HI
 have HR:=Hd (Yaz (left:=left) hb)
 have e4:((4 - (left+1):Nat):Int)+1=((4 - left:Nat):Int):=by omega
 have e5:decide ((4:Int)≤((4 - (left+1):Nat):Int))=false:=by simp;omega
 have e6:((4 - (left+1):Nat):Int)≤4:=by omega
 have e7:(0:Int)≤((4 - (left+1):Nat):Int):=by omega
 have HIH:=Hd IH
 generalize ((4 - (left+1):Nat):Int)=q at *
 clear h hb hz IH
 go_enter Tryz.func54,Tryz.ntmps54
 go_wp2_with fail
 refine HI.out.mono ?_
 rintro e w1 ⟨rfl,hb1⟩
 have K1:=Hd (K0.out.next (K0.out.rd.below hb1) (Z0.of_below hb1))
 have HT:=Hd (Id r d S oB w1 K1.out.rd)
 clear hb1
 go_wp2_with fail
 refine HT.out.mono ?_
 rintro e w2 ⟨rfl,h2,m2⟩
 have K2:=Hd (K1.out.next h2 m2)
 have HY:=Hd (HIH.out r d (tkS oB S) w2 K2.out.rd)
 clear h2 m2
 go_wp2_with fail
 refine HY.out.mono ?_
 rintro e w3 ⟨n,l,m,rfl,hnb,hR,h3,m3⟩
 have NB:=Hd hnb
 clear hnb
 have K3:=Hd (K2.out.next h3 m3)
 have HV:=Hd hR
 obtain ⟨y0,y1,y2,yz⟩:=Zy K3.out.loc
 have yf0:=yz 0
 have yf1:=yz 1
 have yf2:=yz 2
 have K4:=Hd (((K3.out.put 0 (.string n)).put 1 (.int .i64 l)).put 2 (.int .i64 m))
 clear h3 m3 hR yz HY
 go_wp2_with fail
 have HC:=Hd (Id r d (Yk (Za (Zl left) (tkS oB S))) cB _ K4.out.rd)
 refine HC.out.mono ?_
 rintro e w5 ⟨rfl,h5,m5⟩
 have K5:=Hd (K4.out.next h5 m5)
 obtain ⟨x0,x1,x2,xz⟩:=Zy K5.out.loc
 have xf0:=xz 0
 have xf1:=xz 1
 have xf2:=xz 2
 clear h5 m5 xz HC y0 y1 y2 yf0 yf1 yf2
 go_wp2_with fail
 obtain ⟨L,hL⟩:∃ L,wrap64 (l+1)=L:=⟨_,rfl⟩
 obtain ⟨M,hM⟩:∃ M,wrap64 (m*2)=M:=⟨_,rfl⟩
 have HX:=Hd (fun us (h:Yk (Za (Zl left) (tkS oB S))=.ok us)=>Yfi hl HV.out h)
 rw [hL,hM] at HX ⊢
 have K6:=Hd ((K5.out.put 1 (.int .i64 L)).put 2 (.int .i64 M))
 have HB:=Hd (ris r d (tkS cB (Yk (Za (Zl left) (tkS oB S)))) bB _ K6.out.rd)
 clear hL hM x0 x1 x2 xf0 xf1 xf2
 cases hc:isS 1 bB (tkS cB (Yk (Za (Zl left) (tkS oB S)))) with
 | false =>
   rw [hc] at HB
   have HC:=Hd hc
   refine HB.out.mono ?_
   rintro e w7 ⟨rfl,hb7⟩
   have K7:=Hd (K6.out.next (K6.out.rd.below hb7) (Z0.of_below hb7))
   obtain ⟨x0,x1,x2,xz⟩:=Zy K7.out.loc
   obtain ⟨q0,q1,q2,qz⟩:=Zy K7.out.res
   have qf0:=qz 0
   have qf1:=qz 1
   have qf2:=qz 2
   clear hb7 hc xz qz
   go_wp2_with fail
   have F:=K7.out.fin (ys:=tyZ) [.string n,.int .i64 L,.int .i64 M] rfl
   refine Y8 (cs:=[.string n,.int .i64 L,.int .i64 M]) rfl rfl rfl F.1 Tryz.underlying39 ⟨_,rfl⟩ (by kernel_rfl) ?_
   rw [HR.out,Yai HC.out,Yc,Jn]
   refine ⟨n,L,M,rfl,Ya1 NB.out,fun a ts e=>?_,F.2.1,F.2.2⟩
   obtain ⟨e1,rfl⟩:=Wq e
   obtain ⟨us,e2⟩:=Ycr e1
   obtain ⟨v1,v2,v3,_⟩:=HX.out us e2
   exact ⟨v1,v2,v3⟩
 | true =>
   rw [hc] at HB
   have HC:=Hd hc
   refine HB.out.mono ?_
   rintro e w7 ⟨rfl,hb7⟩
   have K7:=Hd (K6.out.next (K6.out.rd.below hb7) (Z0.of_below hb7))
   have HT2:=Hd (Id r d (tkS cB (Yk (Za (Zl left) (tkS oB S)))) bB w7 K7.out.rd)
   clear hb7 hc
   go_wp2_with fail
   refine HT2.out.mono ?_
   rintro e w8 ⟨rfl,h8,m8⟩
   have K8:=Hd (K7.out.next h8 m8)
   obtain ⟨B,hB⟩:∃ B,bits .or .i64 M 1=B:=⟨_,rfl⟩
   obtain ⟨x0,x1,x2,xz⟩:=Zy K8.out.loc
   have xf2:=xz 2
   have K9:=Hd (K8.out.put 2 (.int .i64 B))
   obtain ⟨y0,y1,y2,yz⟩:=Zy K9.out.loc
   obtain ⟨q0,q1,q2,qz⟩:=Zy K9.out.res
   have qf0:=qz 0
   have qf1:=qz 1
   have qf2:=qz 2
   clear h8 m8 xz yz qz HT2
   go_wp2_with fail
   have HBB:=Hd hB
   have F:=K9.out.fin (ys:=tyZ) [.string n,.int .i64 L,.int .i64 B] rfl
   refine Y8 (cs:=[.string n,.int .i64 L,.int .i64 B]) rfl rfl rfl F.1 Tryz.underlying39 ⟨_,rfl⟩ (by kernel_rfl) ?_
   rw [HR.out,Zkr HC.out,Yc,Jn]
   refine ⟨n,L,B,rfl,Ya1 NB.out,fun a ts e=>?_,F.2.1,F.2.2⟩
   obtain ⟨e1,rfl⟩:=Wq e
   obtain ⟨t9,us9,e9,_⟩:=Xh HC.out
   obtain ⟨us,e2⟩:=Ycr e9
   obtain ⟨v1,v2,_,v4⟩:=HX.out us e2
   exact ⟨v1,v2,by rw [← HBB.out];exact v4⟩
theorem Ynr:∀ left,left≤4→Ymh nT left:=by
 intro left
 induction left with
 | zero =>
   intro _ r d S w h
   cases hb:isS 1 oB S with
   | false=>exact T8 0 r d S w h hb
   | true=>exact Yf2 r d S w h hb
 | succ k ih =>
   intro hl r d S w h
   cases hb:isS 1 oB S with
   | false=>exact T8 (k+1) r d S w h hb
   | true=>exact Yhg k (by omega) (ih (by omega)) r d S w h hb
end Go.Proofs.YtpkmbhnikilihaaGreatDoor
