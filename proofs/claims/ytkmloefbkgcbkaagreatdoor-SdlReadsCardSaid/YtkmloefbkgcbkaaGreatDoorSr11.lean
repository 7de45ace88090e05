/- The walk of the landed reader's value. -/
import Derived.Test.YtkmloefbkgcbkaaGreatDoorSr10
set_option maxRecDepth 100000
set_option maxHeartbeats 8000000
namespace Go.Proofs.YtkmloefbkgcbkaaGreatDoor
open Go.RowKit
theorem Yjr (f:Nat) (HL:Ylo f) (fx:Bool) (d:Nat) (ts:List Tok) (r:Nat) (w:World) (hf:2*ts.length+1≤f+1) (hG:Zs ts) (hd:d≤16) (hR:Rd w r ts d) (hK:KRd r w) (hb:atB 1 oB ts=true) :
 Calls Tryz.prog 117 #[.pointer (some ⟨r,0,none⟩),.bool fx] w fun e w'=>match F3 (f+1) fx d ts with
   | .ok (v,ts')=>(∃ d0 d1 d2 d3 d4,e=.returned (.agg #[d0,d1,d2,d3,d4])∧VP w' (Y7 w w') v d0 d1 d2 d3 d4)∧Rd w' r ts' d∧Zs ts'∧Z0 r w w'
   | .error x=>e=Yb x∧Z0 r w w':=by
 have K0:=Hd (Yaw.start hR.lt);have B0:=Hd ((Below.refl w.heap.size w).alloc (Nat.le_refl _) (.cells #[.int .i64 0,.int .i64 0,.string ⟨#[]⟩,.slice none 0 0,.slice none 0 0] 94));have HA:=Hd (Ir r ts d 1 oB _ (hR.below B0.out));have C:=Hd (HL fx d ts r _ (by omega) hG hd hb (hR.below B0.out) (hK.moved (Z0.of_below B0.out)));rw [Yej hb];rw [hb] at HA;have hsz:Hid ((w.alloc (.cells #[.int .i64 0,.int .i64 0,.string ⟨#[]⟩,.slice none 0 0,.slice none 0 0] 94)).heap.size=w.heap.size+1):=Hd (by simp);clear hR hK hb hf hG
 cases hl:Zqj f fx d ts with
 | error x =>
   rw [hl] at C
   show Calls _ _ _ _ fun e w'=>e=Yb x∧Z0 r w w'
   go_enter Tryz.func117,Tryz.ntmps117
   go_wp2_with fail
   refine HA.out.mono ?_;rintro e w1 ⟨rfl,rfl⟩;go_wp2_with fail
   refine C.out.mono ?_;rintro e w2 ⟨rfl,m2⟩;exact ⟨rfl,rfl,K0.out.2.1.trans m2⟩
 | ok p =>
   obtain ⟨l,ts1⟩:=p;rw [hl] at C
   show Calls _ _ _ _ fun e w'=>(∃ d0 d1 d2 d3 d4,e=.returned (.agg #[d0,d1,d2,d3,d4])∧VP w' (Y7 w w') (.mk 6 0 ⟨#[]⟩ l .nil) d0 d1 d2 d3 d4)∧Rd w' r ts1 d∧Zs ts1∧Z0 r w w';clear hl
   go_enter Tryz.func117,Tryz.ntmps117
   go_wp2_with fail
   refine HA.out.mono ?_;rintro e w1 ⟨rfl,rfl⟩;go_wp2_with fail
   refine C.out.mono ?_;rintro e w2 ⟨⟨d0,d1,d2,d3,d4,rfl,hv⟩,r2,g2,m2⟩;have HV:=Hd hv;have R2:=Hd (And.intro r2 g2);have K2:=Hd (K0.out.next m2);unfold VP at hv;obtain ⟨rfl,rfl,rfl,_,⟨A3,c3,rfl,_,_⟩,A4,c4,rfl,_,_⟩:=hv;obtain ⟨q0,q1,q2,q3,q4,qz⟩:=gvc K2.out.1;have z0:=qz 0;have z1:=qz 1;have z2:=qz 2;have z3:=qz 3;have z4:=qz 4;clear r2 g2 m2 C HA K0 qz;go_wp2_with fail
   refine V7 rfl rfl rfl (K2.out.fin _ _ _ _ _).1 ⟨⟨_,_,_,_,_,rfl,Ykb HV.out (Nat.le_of_eq hsz.out.symm)⟩,R2.out.1.set5 K2.out.2.2,R2.out.2,(K2.out.fin _ _ _ _ _).2⟩
theorem Yn9 (f:Nat) (HL:Yq9 f) (fx:Bool) (d:Nat) (ts:List Tok) (r:Nat) (w:World) (hf:2*ts.length+1≤f+1) (hG:Zs ts) (hd:d≤16) (hR:Rd w r ts d) (hK:KRd r w) (h0:atB 1 oB ts=false) (hb:atB 1 omB ts=true) :
 Calls Tryz.prog 117 #[.pointer (some ⟨r,0,none⟩),.bool fx] w fun e w'=>match F3 (f+1) fx d ts with
   | .ok (v,ts')=>(∃ d0 d1 d2 d3 d4,e=.returned (.agg #[d0,d1,d2,d3,d4])∧VP w' (Y7 w w') v d0 d1 d2 d3 d4)∧Rd w' r ts' d∧Zs ts'∧Z0 r w w'
   | .error x=>e=Yb x∧Z0 r w w':=by
 have K0:=Hd (Yaw.start hR.lt);have B0:=Hd ((Below.refl w.heap.size w).alloc (Nat.le_refl _) (.cells #[.int .i64 0,.int .i64 0,.string ⟨#[]⟩,.slice none 0 0,.slice none 0 0] 94));have HA:=Hd (Ir r ts d 1 oB _ (hR.below B0.out));have HA2:=Hd (Ir r ts d 1 omB _ (hR.below B0.out));have C:=Hd (HL fx d ts r _ (by omega) hG hd hb (hR.below B0.out) (hK.moved (Z0.of_below B0.out)));rw [Yik h0 hb];rw [h0] at HA;rw [hb] at HA2;have hsz:Hid ((w.alloc (.cells #[.int .i64 0,.int .i64 0,.string ⟨#[]⟩,.slice none 0 0,.slice none 0 0] 94)).heap.size=w.heap.size+1):=Hd (by simp);clear hR hK hb hf hG h0
 cases hl:Yk4 f fx d ts with
 | error x =>
   rw [hl] at C
   show Calls _ _ _ _ fun e w'=>e=Yb x∧Z0 r w w'
   go_enter Tryz.func117,Tryz.ntmps117
   go_wp2_with fail
   refine HA.out.mono ?_;rintro e w1 ⟨rfl,rfl⟩;go_wp2_with fail
   refine HA2.out.mono ?_;rintro e w1 ⟨rfl,rfl⟩;go_wp2_with fail
   refine C.out.mono ?_;rintro e w2 ⟨rfl,m2⟩;exact ⟨rfl,rfl,K0.out.2.1.trans m2⟩
 | ok p =>
   obtain ⟨l,ts1⟩:=p;rw [hl] at C
   show Calls _ _ _ _ fun e w'=>(∃ d0 d1 d2 d3 d4,e=.returned (.agg #[d0,d1,d2,d3,d4])∧VP w' (Y7 w w') (.mk 7 0 ⟨#[]⟩ .nil l) d0 d1 d2 d3 d4)∧Rd w' r ts1 d∧Zs ts1∧Z0 r w w';clear hl
   go_enter Tryz.func117,Tryz.ntmps117
   go_wp2_with fail
   refine HA.out.mono ?_;rintro e w1 ⟨rfl,rfl⟩;go_wp2_with fail
   refine HA2.out.mono ?_;rintro e w1 ⟨rfl,rfl⟩;go_wp2_with fail
   refine C.out.mono ?_;rintro e w2 ⟨⟨d0,d1,d2,d3,d4,rfl,hv⟩,r2,g2,m2⟩;have HV:=Hd hv;have R2:=Hd (And.intro r2 g2);have K2:=Hd (K0.out.next m2);unfold VP at hv;obtain ⟨rfl,rfl,rfl,_,⟨A3,c3,rfl,_,_⟩,A4,c4,rfl,_,_⟩:=hv;obtain ⟨q0,q1,q2,q3,q4,qz⟩:=gvc K2.out.1;have z0:=qz 0;have z1:=qz 1;have z2:=qz 2;have z3:=qz 3;have z4:=qz 4;clear r2 g2 m2 C HA HA2 K0 qz;go_wp2_with fail
   refine V7 rfl rfl rfl (K2.out.fin _ _ _ _ _).1 ⟨⟨_,_,_,_,_,rfl,Ykb HV.out (Nat.le_of_eq hsz.out.symm)⟩,R2.out.1.set5 K2.out.2.2,R2.out.2,(K2.out.fin _ _ _ _ _).2⟩
theorem Zjx {t:Tok} {ts:List Tok} (h:Zv t=none):Zzj (t :: ts)=.error 2:=by unfold Zzj;simp only [h]
theorem Zxx {t:Tok} {ts:List Tok} {k n:Int} {s:ByteArray} (h:Zv t=some (k,n,s)):Zzj (t :: ts)=.ok (.mk k n s .nil .nil,ts):=by unfold Zzj;simp only [h]
theorem Mt {t:Tok} {k n:Int} {s:ByteArray} (ht:t.2.size≤9000) (h:Zv t=some (k,n,s)):s.size≤9000:=by
 have hz:(⟨#[]⟩:ByteArray).size=0:=rfl;have h2:=h;unfold Zv at h2
 split at h2
 · have h3:=Option.some.inj h2
   unfold Oa at h3
   repeat' split at h3
   all_goals
     have:=(Prod.mk.inj (Prod.mk.inj h3).2).2;subst this;omega
 · split at h2
   · split at h2
     · have:=(Prod.mk.inj (Prod.mk.inj (Option.some.inj h2)).2).2
       subst this;omega
     · have:=(Prod.mk.inj (Prod.mk.inj (Option.some.inj h2)).2).2
       subst this;exact ht
   · split at h2
     · have:=(Prod.mk.inj (Prod.mk.inj (Option.some.inj h2)).2).2
       subst this;exact ht
     · split at h2
       · have:=(Prod.mk.inj (Prod.mk.inj (Option.some.inj h2)).2).2
         subst this;exact ht
       · cases h2
theorem Yle (f d:Nat) (ts:List Tok) (r:Nat) (w:World) (hG:Zs ts) (hR:Rd w r ts d) (h0:atB 1 oB ts=false) (h1:atB 1 omB ts=false) (hb:atB 1 J5 ts=true) :
 Calls Tryz.prog 117 #[.pointer (some ⟨r,0,none⟩),.bool false] w fun e w'=>match F3 (f+1) false d ts with
   | .ok (v,ts')=>(∃ d0 d1 d2 d3 d4,e=.returned (.agg #[d0,d1,d2,d3,d4])∧VP w' (Y7 w w') v d0 d1 d2 d3 d4)∧Rd w' r ts' d∧Zs ts'∧Z0 r w w'
   | .error x=>e=Yb x∧Z0 r w w':=by
 have K0:=Hd (Yaw.start hR.lt);have B0:=Hd ((Below.refl w.heap.size w).alloc (Nat.le_refl _) (.cells #[.int .i64 0,.int .i64 0,.string ⟨#[]⟩,.slice none 0 0,.slice none 0 0] 94));have HA:=Hd (Ir r ts d 1 oB _ (hR.below B0.out));have HA2:=Hd (Ir r ts d 1 omB _ (hR.below B0.out));rw [h0] at HA;rw [h1] at HA2;have HS:=Hd (Yg r ts d 1 J5 _ (hR.below B0.out));have hst:Xs 1 J5 ts=ts.tail:=by unfold Xs;rw [hb];rfl
 rw [hst,hb] at HS;rw [Yh5 h0 h1 (by rw [hb];rfl)];have hgt:=hG.tail;clear hR hst hb h0 h1 hG
 cases hn:Zg ts.tail with
 | none =>
   have HP:=fun wx (hx:Rd wx r ts.tail d)=>Hd (by have:=Yr r ts.tail d wx hx;rw [hn] at this;exact this)
   show Calls _ _ _ _ fun e w'=>e=Yb 2∧Z0 r w w';clear hn hgt
   go_enter Tryz.func117,Tryz.ntmps117
   go_wp2_with fail
   refine HA.out.mono ?_;rintro e w1 ⟨rfl,rfl⟩;go_wp2_with fail
   refine HA2.out.mono ?_;rintro e w1 ⟨rfl,rfl⟩;go_wp2_with fail
   refine HS.out.mono ?_;rintro e w2 ⟨rfl,r2,m2⟩;have K2:=Hd (K0.out.next m2);have R2:=Hd r2;clear r2 m2;go_wp2_with fail
   refine (HP _ R2.out).out.mono ?_;rintro e w3 ⟨rfl,m3⟩;exact ⟨rfl,rfl,K2.out.2.1.trans m3⟩
 | some p =>
   obtain ⟨s,ts1⟩:=p;have HP:=fun wx (hx:Rd wx r ts.tail d)=>Hd (by have:=Yr r ts.tail d wx hx;rw [hn] at this;exact this);have hg1:=Hd (hgt.name hn)
   show Calls _ _ _ _ fun e w'=>(∃ d0 d1 d2 d3 d4,e=.returned (.agg #[d0,d1,d2,d3,d4])∧VP w' (Y7 w w') (.mk 8 0 s .nil .nil) d0 d1 d2 d3 d4)∧Rd w' r ts1 d∧Zs ts1∧Z0 r w w';clear hn hgt
   go_enter Tryz.func117,Tryz.ntmps117
   go_wp2_with fail
   refine HA.out.mono ?_;rintro e w1 ⟨rfl,rfl⟩;go_wp2_with fail
   refine HA2.out.mono ?_;rintro e w1 ⟨rfl,rfl⟩;go_wp2_with fail
   refine HS.out.mono ?_;rintro e w2 ⟨rfl,r2,m2⟩;have K2:=Hd (K0.out.next m2);have R2:=Hd r2;clear r2 m2;go_wp2_with fail
   refine (HP _ R2.out).out.mono ?_;rintro e w3 ⟨rfl,r3,m3⟩;have K3:=Hd (K2.out.next m3);have R3:=Hd r3;obtain ⟨q0,q1,q2,q3,q4,qz⟩:=gvc K3.out.1;have z0:=qz 0;have z1:=qz 1;have z2:=qz 2;have z3:=qz 3;have z4:=qz 4;clear qz;clear r3 m3 HP HS K0 K2 R2 HA HA2;go_wp2_with fail
   refine V7 rfl rfl rfl (K3.out.fin _ _ _ _ _).1 ⟨⟨_,_,_,_,_,rfl,Sa _ _ 8 0 s hg1.out.1⟩,R3.out.set5 K3.out.2.2,hg1.out.2,(K3.out.fin _ _ _ _ _).2⟩
theorem Zz4 (f d:Nat) (ts:List Tok) (r:Nat) (w:World) (hG:Zs ts) (hR:Rd w r ts d) (hK:KRd r w) (h0:atB 1 oB ts=false) (h1:atB 1 omB ts=false) :
 Calls Tryz.prog 117 #[.pointer (some ⟨r,0,none⟩),.bool true] w fun e w'=>match F3 (f+1) true d ts with
   | .ok (v,ts')=>(∃ d0 d1 d2 d3 d4,e=.returned (.agg #[d0,d1,d2,d3,d4])∧VP w' (Y7 w w') v d0 d1 d2 d3 d4)∧Rd w' r ts' d∧Zs ts'∧Z0 r w w'
   | .error x=>e=Yb x∧Z0 r w w':=by
 have K0:=Hd (Yaw.start hR.lt);have B0:=Hd ((Below.refl w.heap.size w).alloc (Nat.le_refl _) (.cells #[.int .i64 0,.int .i64 0,.string ⟨#[]⟩,.slice none 0 0,.slice none 0 0] 94));have HA:=Hd (Ir r ts d 1 oB _ (hR.below B0.out));have HA2:=Hd (Ir r ts d 1 omB _ (hR.below B0.out));rw [h0] at HA;rw [h1] at HA2;have R0:=Hd (hR.below B0.out);have KD:=Hd (hK.moved (Z0.of_below B0.out));rw [Zxc h0 h1 rfl];clear hR h0 h1 hK
 cases ts with
 | nil =>
   have HT:=fun wx (hx:Rd wx r [] d)=>Hd (Zzs r d wx hx)
   show Calls _ _ _ _ fun e w'=>e=Yb 2∧Z0 r w w'
   go_enter Tryz.func117,Tryz.ntmps117
   go_wp2_with fail
   refine HA.out.mono ?_;rintro e w1 ⟨rfl,rfl⟩;go_wp2_with fail
   refine HA2.out.mono ?_;rintro e w1 ⟨rfl,rfl⟩;go_wp2_with fail
   refine (HT _ R0.out).out.mono ?_;rintro e w3 ⟨rfl,m3⟩;exact ⟨rfl,rfl,K0.out.2.1.trans m3⟩
 | cons t ts =>
   have HT:=fun wx (hx:Rd wx r (t :: ts) d)=>Hd (Wc r t ts d wx hx);have HG:=Hd (hG t (by simp));have hgt:=Hd hG.tail;have HSG:=fun wx (hx:Ve wx)=>Hd (Q2 t wx HG.out.1 HG.out.2 hx);clear hG
   cases hs:Zv t with
   | none =>
     rw [hs] at HSG;rw [Zjx hs]
     show Calls _ _ _ _ fun e w'=>e=Yb 2∧Z0 r w w';clear hs
     go_enter Tryz.func117,Tryz.ntmps117
     go_wp2_with fail
     refine HA.out.mono ?_;rintro e w1 ⟨rfl,rfl⟩;go_wp2_with fail
     refine HA2.out.mono ?_;rintro e w1 ⟨rfl,rfl⟩;go_wp2_with fail
     refine (HT _ R0.out).out.mono ?_;rintro e w3 ⟨rfl,r3,m3⟩;have K3:=Hd (K0.out.next m3);have D3:=Hd (KD.out.moved m3);clear r3 m3;go_wp2_with fail
     refine (HSG _ D3.out.laid).out.mono ?_;rintro e w4 ⟨rfl,hb4⟩;exact ⟨rfl,rfl,K3.out.2.1.trans (Z0.of_below hb4)⟩
   | some p =>
     obtain ⟨k,n,s⟩:=p;rw [hs] at HSG;have hss:=Hd (Mt HG.out.1 hs);rw [Zxx hs]
     show Calls _ _ _ _ fun e w'=>(∃ d0 d1 d2 d3 d4,e=.returned (.agg #[d0,d1,d2,d3,d4])∧VP w' (Y7 w w') (.mk k n s .nil .nil) d0 d1 d2 d3 d4)∧Rd w' r ts d∧Zs ts∧Z0 r w w';unfold Ch at HSG;clear hs
     go_enter Tryz.func117,Tryz.ntmps117
     go_wp2_with fail
     refine HA.out.mono ?_;rintro e w1 ⟨rfl,rfl⟩;go_wp2_with fail
     refine HA2.out.mono ?_;rintro e w1 ⟨rfl,rfl⟩;go_wp2_with fail
     refine (HT _ R0.out).out.mono ?_;rintro e w3 ⟨rfl,r3,m3⟩;have K3:=Hd (K0.out.next m3);have D3:=Hd (KD.out.moved m3);have R3:=Hd r3;clear r3 m3;go_wp2_with fail
     refine (HSG _ D3.out.laid).out.mono ?_;rintro e w4 ⟨rfl,hb4⟩;have K4:=Hd (K3.out.next (Z0.of_below hb4));have R4:=Hd (R3.out.below hb4);obtain ⟨q0,q1,q2,q3,q4,qz⟩:=gvc K4.out.1;have z0:=qz 0;have z1:=qz 1;have z2:=qz 2;have z3:=qz 3;have z4:=qz 4;clear qz;clear hb4 K3 R3 D3 HSG HT;go_wp2_with fail
     refine V7 rfl rfl rfl (K4.out.fin _ _ _ _ _).1 ⟨⟨_,_,_,_,_,rfl,Sa _ _ k n s hss.out⟩,R4.out.set5 K4.out.2.2,hgt.out,(K4.out.fin _ _ _ _ _).2⟩
theorem Rw (f d:Nat) (ts:List Tok) (r:Nat) (w:World) (hG:Zs ts) (hR:Rd w r ts d) (hK:KRd r w) (h0:atB 1 oB ts=false) (h1:atB 1 omB ts=false) (hb:atB 1 J5 ts=false) :
 Calls Tryz.prog 117 #[.pointer (some ⟨r,0,none⟩),.bool false] w fun e w'=>match F3 (f+1) false d ts with
   | .ok (v,ts')=>(∃ d0 d1 d2 d3 d4,e=.returned (.agg #[d0,d1,d2,d3,d4])∧VP w' (Y7 w w') v d0 d1 d2 d3 d4)∧Rd w' r ts' d∧Zs ts'∧Z0 r w w'
   | .error x=>e=Yb x∧Z0 r w w':=by
 have K0:=Hd (Yaw.start hR.lt);have B0:=Hd ((Below.refl w.heap.size w).alloc (Nat.le_refl _) (.cells #[.int .i64 0,.int .i64 0,.string ⟨#[]⟩,.slice none 0 0,.slice none 0 0] 94));have HA:=Hd (Ir r ts d 1 oB _ (hR.below B0.out));have HA2:=Hd (Ir r ts d 1 omB _ (hR.below B0.out));rw [h0] at HA;rw [h1] at HA2;have R0:=Hd (hR.below B0.out);have KD:=Hd (hK.moved (Z0.of_below B0.out));have HS:=Hd (Yg r ts d 1 J5 _ (hR.below B0.out));have hst:Xs 1 J5 ts=ts:=by unfold Xs;rw [hb];rfl
 rw [hst,hb] at HS;rw [Zxc h0 h1 (by rw [hb];rfl)];clear hR hst hb h0 h1 hK
 cases ts with
 | nil =>
   have HT:=fun wx (hx:Rd wx r [] d)=>Hd (Zzs r d wx hx)
   show Calls _ _ _ _ fun e w'=>e=Yb 2∧Z0 r w w'
   go_enter Tryz.func117,Tryz.ntmps117
   go_wp2_with fail
   refine HA.out.mono ?_;rintro e w1 ⟨rfl,rfl⟩;go_wp2_with fail
   refine HA2.out.mono ?_;rintro e w1 ⟨rfl,rfl⟩;go_wp2_with fail
   refine HS.out.mono ?_;rintro e w2 ⟨rfl,r2,m2⟩;have K2:=Hd (K0.out.next m2);have R2:=Hd r2;have D2:=Hd (KD.out.moved m2);clear r2 m2;go_wp2_with fail
   refine (HT _ R2.out).out.mono ?_;rintro e w3 ⟨rfl,m3⟩;exact ⟨rfl,rfl,K2.out.2.1.trans m3⟩
 | cons t ts =>
   have HT:=fun wx (hx:Rd wx r (t :: ts) d)=>Hd (Wc r t ts d wx hx);have HG:=Hd (hG t (by simp));have hgt:=Hd hG.tail;have HSG:=fun wx (hx:Ve wx)=>Hd (Q2 t wx HG.out.1 HG.out.2 hx);clear hG
   cases hs:Zv t with
   | none =>
     rw [hs] at HSG;rw [Zjx hs]
     show Calls _ _ _ _ fun e w'=>e=Yb 2∧Z0 r w w';clear hs
     go_enter Tryz.func117,Tryz.ntmps117
     go_wp2_with fail
     refine HA.out.mono ?_;rintro e w1 ⟨rfl,rfl⟩;go_wp2_with fail
     refine HA2.out.mono ?_;rintro e w1 ⟨rfl,rfl⟩;go_wp2_with fail
     refine HS.out.mono ?_;rintro e w2 ⟨rfl,r2,m2⟩;have K2:=Hd (K0.out.next m2);have R2:=Hd r2;have D2:=Hd (KD.out.moved m2);clear r2 m2;go_wp2_with fail
     refine (HT _ R2.out).out.mono ?_;rintro e w3 ⟨rfl,r3,m3⟩;have K3:=Hd (K2.out.next m3);have D3:=Hd (D2.out.moved m3);clear r3 m3;go_wp2_with fail
     refine (HSG _ D3.out.laid).out.mono ?_;rintro e w4 ⟨rfl,hb4⟩;exact ⟨rfl,rfl,K3.out.2.1.trans (Z0.of_below hb4)⟩
   | some p =>
     obtain ⟨k,n,s⟩:=p;rw [hs] at HSG;have hss:=Hd (Mt HG.out.1 hs);rw [Zxx hs]
     show Calls _ _ _ _ fun e w'=>(∃ d0 d1 d2 d3 d4,e=.returned (.agg #[d0,d1,d2,d3,d4])∧VP w' (Y7 w w') (.mk k n s .nil .nil) d0 d1 d2 d3 d4)∧Rd w' r ts d∧Zs ts∧Z0 r w w';unfold Ch at HSG;clear hs
     go_enter Tryz.func117,Tryz.ntmps117
     go_wp2_with fail
     refine HA.out.mono ?_;rintro e w1 ⟨rfl,rfl⟩;go_wp2_with fail
     refine HA2.out.mono ?_;rintro e w1 ⟨rfl,rfl⟩;go_wp2_with fail
     refine HS.out.mono ?_;rintro e w2 ⟨rfl,r2,m2⟩;have K2:=Hd (K0.out.next m2);have R2:=Hd r2;have D2:=Hd (KD.out.moved m2);clear r2 m2;go_wp2_with fail
     refine (HT _ R2.out).out.mono ?_;rintro e w3 ⟨rfl,r3,m3⟩;have K3:=Hd (K2.out.next m3);have D3:=Hd (D2.out.moved m3);have R3:=Hd r3;clear r3 m3;go_wp2_with fail
     refine (HSG _ D3.out.laid).out.mono ?_;rintro e w4 ⟨rfl,hb4⟩;have K4:=Hd (K3.out.next (Z0.of_below hb4));have R4:=Hd (R3.out.below hb4);obtain ⟨q0,q1,q2,q3,q4,qz⟩:=gvc K4.out.1;have z0:=qz 0;have z1:=qz 1;have z2:=qz 2;have z3:=qz 3;have z4:=qz 4;clear qz;clear hb4 K3 R3 D3 HSG HT;go_wp2_with fail
     refine V7 rfl rfl rfl (K4.out.fin _ _ _ _ _).1 ⟨⟨_,_,_,_,_,rfl,Sa _ _ k n s hss.out⟩,R4.out.set5 K4.out.2.2,hgt.out,(K4.out.fin _ _ _ _ _).2⟩
theorem Yh1 (f:Nat) (HL:Ylo f) (HM:Yq9 f):Yq1 (f+1):=by
 intro fx d ts r w hf hG hd hR hK
 cases h0:atB 1 oB ts with
 | true=>exact Yjr f HL fx d ts r w hf hG hd hR hK h0
 | false =>
   cases h1:atB 1 omB ts with
   | true=>exact Yn9 f HM fx d ts r w hf hG hd hR hK h0 h1
   | false =>
     cases fx with
     | true=>exact Zz4 f d ts r w hG hR hK h0 h1
     | false =>
       cases hb:atB 1 J5 ts with
       | true=>exact Yle f d ts r w hG hR h0 h1 hb
       | false=>exact Rw f d ts r w hG hR hK h0 h1 hb
theorem Yd1 {f:Nat} {fx:Bool} {d:Nat} {ts:List Tok} (h:Zg ts=none):C9 (f+1) fx d ts=.error 2:=by rw [C9,h]
theorem Yin {f:Nat} {fx:Bool} {d:Nat} {ts r:List Tok} {nm:ByteArray} (h:Zg ts=some (nm,r)) (hc:atB 1 Xj r=false):C9 (f+1) fx d ts=.error 2:=by
 rw [C9,h];simp only [hc];rfl
theorem Yja {f:Nat} {fx:Bool} {d:Nat} {ts r:List Tok} {nm:ByteArray} {e:Int} (h:Zg ts=some (nm,r)) (hc:atB 1 Xj r=true) (hv:F3 f fx d r.tail=.error e):C9 (f+1) fx d ts=.error e:=by
 rw [C9,h];simp only [hc,hv];rfl
theorem Ylm {f:Nat} {fx:Bool} {d:Nat} {ts r r2:List Tok} {nm:ByteArray} {v:VT} (h:Zg ts=some (nm,r)) (hc:atB 1 Xj r=true) (hv:F3 f fx d r.tail=.ok (v,r2)):C9 (f+1) fx d ts=.ok ((nm,v),r2):=by
 rw [C9,h];simp only [hc,hv];rfl
abbrev Yq2:Obj:=.cells #[.string ⟨#[]⟩,.int .i64 0,.int .i64 0,.string ⟨#[]⟩,.slice none 0 0,.slice none 0 0] 151
def Yki (w:World) (r:Nat) (W:World):Prop:=W.heap[w.heap.size]? = some Yq2∧Z0 r w W∧r < w.heap.size
theorem Yki.start {w:World} {r:Nat} (hr:r < w.heap.size):Yki w r (w.alloc Yq2):=⟨heap_alloc_new _ _,Z0.of_below ((Below.refl _ _).alloc (Nat.le_refl _) _),hr⟩
theorem Yki.next {w:World} {r:Nat} {W W':World} (h:Yki w r W) (m:Z0 r W W'):Yki w r W':=⟨m.keep h.1 (by have:=h.2.2;omega),h.2.1.trans m,h.2.2⟩
abbrev set6 (W:World) (b:Nat) (x0 x1 x2 x3 x4 x5:Value):World:=(((((W.setCell ⟨b,0,none⟩ x0).setCell ⟨b,1,none⟩ x1).setCell ⟨b,2,none⟩ x2).setCell ⟨b,3,none⟩ x3).setCell ⟨b,4,none⟩ x4).setCell ⟨b,5,none⟩ x5
theorem Yfj (W:World) (b:Nat) (x0 x1 x2 x3 x4 x5:Value):(set6 W b x0 x1 x2 x3 x4 x5).heap.size=W.heap.size:=by simp [set6,World.setCell]
theorem Yaj (W:World) (b:Nat) (x0 x1 x2 x3 x4 x5:Value) {k:Nat} (h:k ≠ b):(set6 W b x0 x1 x2 x3 x4 x5).heap[k]? = W.heap[k]?:=by
 unfold set6;rw [Below.heap_setCell _ _ _ _ h,Below.heap_setCell _ _ _ _ h,Below.heap_setCell _ _ _ _ h,Below.heap_setCell _ _ _ _ h,Below.heap_setCell _ _ _ _ h,Below.heap_setCell _ _ _ _ h]
theorem Ym0 {w:World} {b:Nat} {z0 z1 z2 z3 z4 z5 v0 v1 v2 v3 v4 v5:Value} {t:TypeId} (h:w.heap[b]? = some (.cells #[z0,z1,z2,z3,z4,z5] t (0,0))):(set6 w b v0 v1 v2 v3 v4 v5).heap[b]? = some (.cells #[v0,v1,v2,v3,v4,v5] t (0,0)):=
 heap_setCell_same _ b 5 _ _ _ (heap_setCell_same _ b 4 _ _ _ (heap_setCell_same _ b 3 _ _ _ (heap_setCell_same _ b 2 _ _ _ (heap_setCell_same _ b 1 _ _ _ (heap_setCell_same _ b 0 _ _ _ h)))))
theorem Yki.fin {w:World} {r:Nat} {W:World} (h:Yki w r W) (x0 x1 x2 x3 x4 x5:Value):(set6 W w.heap.size x0 x1 x2 x3 x4 x5).heap[w.heap.size]? = some (.cells #[x0,x1,x2,x3,x4,x5] 151 (0,0))∧Z0 r w (set6 W w.heap.size x0 x1 x2 x3 x4 x5):=
 ⟨Ym0 h.1,(((((h.2.1.put (Nat.le_refl _)).put (Nat.le_refl _)).put (Nat.le_refl _)).put (Nat.le_refl _)).put (Nat.le_refl _)).put (Nat.le_refl _)⟩
theorem Zr {w:World} {b:Nat} {z0 z1 z2 z3 z4 z5:Value} {t:TypeId} (h:w.heap[b]? = some (.cells #[z0,z1,z2,z3,z4,z5] t (0,0))):w.cell? ⟨b,0,none⟩=some z0∧w.cell? ⟨b,1,none⟩=some z1∧w.cell? ⟨b,2,none⟩=some z2∧w.cell? ⟨b,3,none⟩=some z3∧w.cell? ⟨b,4,none⟩=some z4∧w.cell? ⟨b,5,none⟩=some z5∧∀ i,w.frozen? ⟨b,i,none⟩=false:=by
 refine ⟨?_,?_,?_,?_,?_,?_,fun i=>?_⟩
 all_goals first|(simp only [World.cell?,h];rfl)|simp [World.frozen?,h]
theorem Rd.set6 {w:World} {r b:Nat} {x0 x1 x2 x3 x4 x5:Value} {ts:List Tok} {d:Nat} (h:Rd w r ts d) (hb:r < b):Rd (set6 w b x0 x1 x2 x3 x4 x5) r ts d:=(((((h.set hb).set hb).set hb).set hb).set hb).set hb
theorem Ykq {w W0 W:World} {v:VT} {c0 c1 c2 c3 c4 x0 x1 x2 x3 x4 x5:Value} (h:VP W (Y7 W0 W) v c0 c1 c2 c3 c4) (h0:w.heap.size+1≤W0.heap.size):VP (set6 W w.heap.size x0 x1 x2 x3 x4 x5) (Y7 w (set6 W w.heap.size x0 x1 x2 x3 x4 x5)) v c0 c1 c2 c3 c4:=
 VP.keep (fun b hb=>by
  have h1:=hb.1;have h2:=hb.2;exact ⟨⟨by omega,by rw [Yfj];exact h2⟩,Yaj _ _ _ _ _ _ _ _ (by omega)⟩) _ _ _ _ _ _ h
theorem Ypb {R:Ending→World→Prop} {fn:Func} {a:Act} {W:World} {c0 c1 c2 c3 c4 c5:Value} {p b:Nat} (hf:fn.results=#[.cell p 151]) (h2:a.tmps.getD p undef=.pointer (some ⟨b,0,none⟩)) (hd:a.defers=[])
  (hc:W.heap[b]? = some (.cells #[c0,c1,c2,c3,c4,c5] 151 (0,0))) (hR:R (.returned (.agg #[c0,c1,c2,c3,c4,c5])) W):bodyPost Tryz.prog fn R .ret a W:=by
 have hl:(loadVar 151 ⟨b,0,none⟩).run Tryz.prog W=.ok (.agg #[c0,c1,c2,c3,c4,c5]) W:=
  run_loadVar_row W b 151 151 #[c0,c1,c2,c3,c4,c5] (0,0) _ hc Tryz.underlying151 rfl (by kernel_rfl)
 refine bodyPost_ret ?_ hd hR;have h2':a.tmps[p]?.getD undef=.pointer (some ⟨b,0,none⟩):=by rw [← h2];simp
 simp [results,hf,h2',asAddr,hl]
theorem Yhm (f:Nat) (HV:Yq1 f):Yq3 (f+1):=by
 intro fx d ts r w hf hG hd hR hK;have K0:=Hd (Yki.start hR.lt);have B0:=Hd ((Below.refl w.heap.size w).alloc (Nat.le_refl _) Yq2);have R0:=Hd (hR.below B0.out);have D0:=Hd (hK.moved (Z0.of_below B0.out));have hsz:Hid ((w.alloc Yq2).heap.size=w.heap.size+1):=Hd (by simp);clear hR hK
 cases hn:Zg ts with
 | none =>
   have HP:=fun wx (hx:Rd wx r ts d)=>Hd (by have:=Yr r ts d wx hx;rw [hn] at this;exact this);rw [Yd1 hn]
   show Calls _ _ _ _ fun e w'=>e=Yb 2∧Z0 r w w';clear hn hG
   go_enter Tryz.func145,Tryz.ntmps145
   go_wp2_with fail
   refine (HP _ R0.out).out.mono ?_;rintro e w1 ⟨rfl,m1⟩;exact ⟨rfl,rfl,K0.out.2.1.trans m1⟩
 | some p =>
   obtain ⟨nm,ts1⟩:=p;have HP:=fun wx (hx:Rd wx r ts d)=>Hd (by have:=Yr r ts d wx hx;rw [hn] at this;exact this);have HN:=Hd (hG.name hn);have hln:=W3 hn;clear hG
   cases hc:atB 1 Xj ts1 with
   | false =>
     have HC:=fun wx (hx:Rd wx r ts1 d)=>Hd (by have:=Xa r ts1 d 1 Xj wx hx;rw [hc] at this;simp only [Bool.false_eq_true,if_false] at this;exact this);rw [Yin hn hc]
     show Calls _ _ _ _ fun e w'=>e=Yb 2∧Z0 r w w';clear hn hc
     go_enter Tryz.func145,Tryz.ntmps145
     go_wp2_with fail
     refine (HP _ R0.out).out.mono ?_;rintro e w1 ⟨rfl,r1,m1⟩;have K1:=Hd (K0.out.next m1);have R1:=Hd r1;clear r1 m1;go_wp2_with fail
     refine (HC _ R1.out).out.mono ?_;rintro e w2 ⟨rfl,m2⟩;exact ⟨rfl,rfl,K1.out.2.1.trans m2⟩
   | true =>
     have HC:=fun wx (hx:Rd wx r ts1 d)=>Hd (by have:=Xa r ts1 d 1 Xj wx hx;rw [hc] at this;simp only [if_true] at this;exact this);have hlt:=Ie hc;have CV:=fun wx (hx:Rd wx r ts1.tail d) (hd:KRd r wx)=>Hd (HV fx d ts1.tail r wx (by omega) HN.out.2.tail (by assumption) hx hd)
     cases hv:F3 f fx d ts1.tail with
     | error x =>
       rw [hv] at CV;rw [Yja hn hc hv]
       show Calls _ _ _ _ fun e w'=>e=Yb x∧Z0 r w w';clear hn hc hv
       go_enter Tryz.func145,Tryz.ntmps145
       go_wp2_with fail
       refine (HP _ R0.out).out.mono ?_;rintro e w1 ⟨rfl,r1,m1⟩;have K1:=Hd (K0.out.next m1);have R1:=Hd r1;have D1:=Hd (D0.out.moved m1);clear r1 m1;go_wp2_with fail
       refine (HC _ R1.out).out.mono ?_;rintro e w2 ⟨rfl,r2,m2⟩;have K2:=Hd (K1.out.next m2);have R2:=Hd r2;have D2:=Hd (D1.out.moved m2);clear r2 m2;go_wp2_with fail
       refine (CV _ R2.out D2.out).out.mono ?_;rintro e w3 ⟨rfl,m3⟩;exact ⟨rfl,rfl,K2.out.2.1.trans m3⟩
     | ok p =>
       obtain ⟨v,ts2⟩:=p;rw [hv] at CV;rw [Ylm hn hc hv]
       show Calls _ _ _ _ fun e w'=>(∃ d0 d1 d2 d3 d4,e=.returned (.agg #[.string nm,d0,d1,d2,d3,d4])∧nm.size≤9000∧VP w' (Y7 w w') v d0 d1 d2 d3 d4)∧Rd w' r ts2 d∧Zs ts2∧Z0 r w w';clear hn hc hv
       go_enter Tryz.func145,Tryz.ntmps145
       go_wp2_with fail
       refine (HP _ R0.out).out.mono ?_;rintro e w1 ⟨rfl,r1,m1⟩;have K1:=Hd (K0.out.next m1);have R1:=Hd r1;have D1:=Hd (D0.out.moved m1);have s1:=m1.size;clear r1 m1;go_wp2_with fail
       refine (HC _ R1.out).out.mono ?_;rintro e w2 ⟨rfl,r2,m2⟩;have K2:=Hd (K1.out.next m2);have R2:=Hd r2;have D2:=Hd (D1.out.moved m2);have s2:=m2.size;clear r2 m2;go_wp2_with fail
       refine (CV _ R2.out D2.out).out.mono ?_;rintro e w3 ⟨⟨d0,d1,d2,d3,d4,rfl,hvp⟩,r3,g3,m3⟩;have HVP:=Hd hvp;have R3:=Hd (And.intro r3 g3);have K3:=Hd (K2.out.next m3);have HSZ:=Hd (show w.heap.size+1≤w2.heap.size by have:=hsz.out;omega);obtain ⟨vk,vn,vs,vl,vm⟩:=v;unfold VP at hvp;obtain ⟨rfl,rfl,rfl,_,⟨A3,c3,rfl,_,_⟩,A4,c4,rfl,_,_⟩:=hvp;obtain ⟨q0,q1,q2,q3,q4,q5,qz⟩:=Zr K3.out.1;have z0:=qz 0;have z1:=qz 1;have z2:=qz 2;have z3:=qz 3;have z4:=qz 4;have z5:=qz 5;clear r3 g3 m3 CV HC HP K0 K1 K2 R0 R1 R2 D0 D1 D2 qz s1 s2;go_wp2_with fail
       refine Ypb rfl rfl rfl (K3.out.fin _ _ _ _ _ _).1 ⟨⟨_,_,_,_,_,rfl,HN.out.1,Ykq HVP.out HSZ.out⟩,R3.out.1.set6 K3.out.2.2,R3.out.2,(K3.out.fin _ _ _ _ _ _).2⟩
end Go.Proofs.YtkmloefbkgcbkaaGreatDoor
