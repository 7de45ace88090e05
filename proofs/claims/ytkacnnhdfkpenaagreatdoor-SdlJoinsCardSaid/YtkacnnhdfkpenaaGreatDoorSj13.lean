/- The landed reader of types: wrappedIn, wrapped. (gen_type.py wrote it.) -/
import Derived.Test.YtkacnnhdfkpenaaGreatDoorSj2
import Derived.Test.YtkacnnhdfkpenaaGreatDoorSj12
set_option maxRecDepth 100000
set_option maxHeartbeats 4000000
namespace Go.Proofs.YtkacnnhdfkpenaaGreatDoor
open Go.RowKit
def oB:ByteArray:=⟨#[91]⟩
def cB:ByteArray:=⟨#[93]⟩
def bB:ByteArray:=⟨#[33]⟩
def bangR (n:ByteArray) (l m:Nat) (ts:List Tok):(ByteArray × Nat × Nat) × List Tok:=if atB 1 bB ts=true then ((n,l,m ||| 1),ts.tail) else ((n,l,m),ts)
def typeR:Nat→List Tok→Except Int ((ByteArray × Nat × Nat) × List Tok)
 | left,ts =>
   if atB 1 oB ts=true then
    match left with
    | 0=>.error 4
    | left+1 =>
      match typeR left ts.tail with
      | .error e=>.error e
      | .ok ((n,l,m),ts1)=>if atB 1 cB ts1=true then .ok (bangR n (l+1) (2*m) ts1.tail) else .error 2
   else
    match nameR ts with
    | none=>.error 2
    | some (n,ts1)=>.ok (bangR n 0 0 ts1)
theorem typeR_name {left:Nat} {ts:List Tok} (h:atB 1 oB ts=false):typeR left ts=(match nameR ts with|none=>.error 2|some (n,ts1)=>.ok (bangR n 0 0 ts1)):=by
 cases left<;>(rw [typeR,if_neg (by rw [h];decide)])
theorem typeR_deep {ts:List Tok} (h:atB 1 oB ts=true):typeR 0 ts=.error 4:=by rw [typeR,if_pos h]
theorem typeR_list {left:Nat} {ts:List Tok} (h:atB 1 oB ts=true):typeR (left+1) ts=(match typeR left ts.tail with
        | .error e=>.error e
        | .ok ((n,l,m),ts1)=>if atB 1 cB ts1=true then .ok (bangR n (l+1) (2*m) ts1.tail) else .error 2):=by rw [typeR,if_pos h]
def NamesT (ts:List Tok):Prop:=∀ t ∈ ts,t.1=2→nameB t.2.data.toList=true∧t.2.size≤9000
theorem NamesT.tail {ts:List Tok} (h:NamesT ts):NamesT ts.tail:=fun t ht=>h t (List.mem_of_mem_tail ht)
theorem nameR_good {ts ts1:List Tok} {n:ByteArray} (h:NamesT ts) (hn:nameR ts=some (n,ts1)):nameB n.data.toList=true∧n.size≤9000∧NamesT ts1:=by
 cases ts with
 | nil=>cases hn
 | cons t ts =>
   change (if t.1=2 then some (t.2,ts) else none)=some (n,ts1) at hn
   split at hn
   · rename_i hk
     obtain ⟨e1,e2⟩:=Prod.mk.inj (Option.some.inj hn)
     subst e1 e2
     exact ⟨(h t (by simp) hk).1,(h t (by simp) hk).2,fun u hu=>h u (by simp [hu])⟩
   · cases hn
def RightN (n:ByteArray) (l m left:Nat) (ts:List Tok):Prop:=nameB n.data.toList=true∧n.size≤9000∧l≤left∧m < 2 ^ (l+1)∧NamesT ts
theorem or_one (m:Nat):(m ||| 1)=2*(m / 2)+1:=by
 have h:=Nat.shiftLeft_add_eq_or_of_lt (a:=m / 2) (b:=1) (i:=1) (by decide)
 rw [Nat.shiftLeft_eq] at h
 have:m ||| 1=(m / 2*2 ^ 1) ||| 1:=by
  apply Nat.eq_of_testBit_eq
  intro i
  rw [Nat.testBit_or,Nat.testBit_or]
  cases i with
  | zero=>simp
  | succ i=>simp [Nat.testBit_succ]
 rw [this,← h];omega
theorem bang_right {n:ByteArray} {l m left:Nat} {ts:List Tok} (h:RightN n l m left ts):RightN (bangR n l m ts).1.1 (bangR n l m ts).1.2.1 (bangR n l m ts).1.2.2 left (bangR n l m ts).2:=by
 obtain ⟨h1,h2,h3,h4,h5⟩:=h
 unfold bangR
 split
 · refine ⟨h1,h2,h3,?_,h5.tail⟩
   show m ||| 1 < _
   have h4':m < 2 ^ l*2:=by rw [← Nat.pow_succ];exact h4
   rw [or_one]
   show _ < 2 ^ (l+1)
   rw [Nat.pow_succ]
   omega
 · exact ⟨h1,h2,h3,h4,h5⟩
theorem type_right:∀ (left:Nat) (ts:List Tok),NamesT ts→∀ n l m ts',typeR left ts=.ok ((n,l,m),ts')→RightN n l m left ts':=by
 intro left
 induction left with
 | zero =>
   intro ts hN n l m ts' h
   cases hb:atB 1 oB ts with
   | true=>rw [typeR_deep hb] at h;cases h
   | false =>
     rw [typeR_name hb] at h
     cases hn:nameR ts with
     | none=>rw [hn] at h;cases h
     | some p =>
       obtain ⟨x,ts1⟩:=p
       rw [hn] at h
       injection h with h
       obtain ⟨g1,g2,g3⟩:=nameR_good hN hn
       have:=bang_right (n:=x) (l:=0) (m:=0) (left:=0) (ts:=ts1) ⟨g1,g2,Nat.le_refl _,by decide,g3⟩
       rw [h] at this
       exact this
 | succ left ih =>
   intro ts hN n l m ts' h
   cases hb:atB 1 oB ts with
   | true =>
     rw [typeR_list hb] at h
     cases hi:typeR left ts.tail with
     | error e=>rw [hi] at h;cases h
     | ok p =>
       obtain ⟨⟨x,a,b⟩,ts1⟩:=p
       rw [hi] at h
       obtain ⟨g1,g2,g3,g4,g5⟩:=ih _ hN.tail _ _ _ _ hi
       simp only at h
       split at h
       · injection h with h
         have:=bang_right (n:=x) (l:=a+1) (m:=2*b) (left:=left+1) (ts:=ts1.tail) ⟨g1,g2,by omega,by rw [Nat.pow_succ];omega,g5.tail⟩
         rw [h] at this
         exact this
       · cases h
   | false =>
     rw [typeR_name hb] at h
     cases hn:nameR ts with
     | none=>rw [hn] at h;cases h
     | some p =>
       obtain ⟨x,ts1⟩:=p
       rw [hn] at h
       injection h with h
       obtain ⟨g1,g2,g3⟩:=nameR_good hN hn
       have:=bang_right (n:=x) (l:=0) (m:=0) (left:=left+1) (ts:=ts1) ⟨g1,g2,Nat.zero_le _,by decide,g3⟩
       rw [h] at this
       exact this
theorem Moved.keep {r b:Nat} {w w':World} {o:Obj} (m:Moved r w w') (h:w.heap[b]? = some o) (hb:b ≠ r):w'.heap[b]? = some o:=
 (m.block b (Array.getElem?_eq_some_iff.1 h).1 (fun e=>hb (by injection e))).trans h
theorem Rd.set {w:World} {r b i:Nat} {v:Value} {ts:List Tok} {d:Nat} (h:Rd w r ts d) (hb:r < b):Rd (w.setCell ⟨b,i,none⟩ v) r ts d:=by
 have hl:=h.lt
 obtain ⟨A,c,h0,h1,h2,h3⟩:=h
 refine ⟨A,c,(Below.heap_setCell _ _ _ _ (by show r ≠ b;omega)).trans h0,h1,h2,fun j t ht=>?_⟩
 obtain ⟨x,o,e,hx,g0,g1⟩:=h3 j t ht
 have hs:(w.setCell ⟨b,i,none⟩ v).heap[x]? = w.heap[x]?:=Below.heap_setCell _ _ _ _ (by show x ≠ b;omega)
 exact ⟨x,o,e,hx,(World.cell?_of_block (a:=⟨x,o+j*2,none⟩) hs).trans g0,(World.cell?_of_block (a:=⟨x,o+j*2+1,none⟩) hs).trans g1⟩
def TwoT (w:World) (r:Nat) (x y z x' y' z':Value) (W:World):Prop:=W.heap[w.heap.size]? = some (.cells #[x,y,z] 74 (0,0))∧W.heap[w.heap.size+1]? = some (.cells #[x',y',z'] 74 (0,0))∧Moved r w W∧r < w.heap.size
theorem TwoT.next {w:World} {r:Nat} {x y z x' y' z':Value} {W W':World} (h:TwoT w r x y z x' y' z' W) (m:Moved r W W'):TwoT w r x y z x' y' z' W':=
 ⟨m.keep h.1 (by have:=h.2.2.2;omega),m.keep h.2.1 (by have:=h.2.2.2;omega),h.2.2.1.trans m,h.2.2.2⟩
theorem Moved.put {r b i:Nat} {w W:World} {v:Value} (h:Moved r w W) (hb:w.heap.size≤b):Moved r w (W.setCell ⟨b,i,none⟩ v):=
 ⟨h.os,h.tape,h.output,by simp [World.setCell];exact h.size,fun k hk hn=>(Below.heap_setCell _ _ _ _ (by show k ≠ b;omega)).trans (h.block k hk hn)⟩
theorem TwoT.set2 {w:World} {r:Nat} {x y z x' y' z':Value} {W:World} (h:TwoT w r x y z x' y' z' W) (a b c:Value):TwoT w r x y z a b c (((W.setCell ⟨w.heap.size+1,0,none⟩ a).setCell ⟨w.heap.size+1,1,none⟩ b).setCell ⟨w.heap.size+1,2,none⟩ c):=
 ⟨wset_other (wset_other (wset_other h.1 (by omega)) (by omega)) (by omega),ty_set h.2.1,((h.2.2.1.put (Nat.le_succ _)).put (Nat.le_succ _)).put (Nat.le_succ _),h.2.2.2⟩
theorem TwoT.set1 {w:World} {r:Nat} {x y z x' y' z':Value} {W:World} (h:TwoT w r x y z x' y' z' W) (a b c:Value):TwoT w r a b c x' y' z' (((W.setCell ⟨w.heap.size,0,none⟩ a).setCell ⟨w.heap.size,1,none⟩ b).setCell ⟨w.heap.size,2,none⟩ c):=
 ⟨ty_set h.1,wset_other (wset_other (wset_other h.2.1 (by omega)) (by omega)) (by omega),((h.2.2.1.put (Nat.le_refl _)).put (Nat.le_refl _)).put (Nat.le_refl _),h.2.2.2⟩
theorem TwoT.setn {w:World} {r:Nat} {x y z x' y' z':Value} {W:World} (h:TwoT w r x y z x' y' z' W) (a:Value):TwoT w r x y z a y' z' (W.setCell ⟨w.heap.size+1,0,none⟩ a):=
 ⟨wset_other h.1 (by omega),heap_setCell_same _ _ 0 _ _ _ h.2.1,h.2.2.1.put (Nat.le_succ _),h.2.2.2⟩
theorem TwoT.start (w:World) (r:Nat) (x y z x' y' z':Value) (hr:r < w.heap.size):TwoT w r x y z x' y' z' ((w.alloc (.cells #[x,y,z] 74)).alloc (.cells #[x',y',z'] 74)):=by
 obtain ⟨h0,h1⟩:=new_two w (.cells #[x,y,z] 74) (.cells #[x',y',z'] 74)
 exact ⟨h0,h1,(Moved.of_below (blw w _)).trans (Moved.of_below (blw _ _)),hr⟩
theorem ret_tp {R:Ending→World→Prop} {fn:Func} {a:Act} {W:World} {x y z:Value} {b p:Nat} (hf:fn.results=#[.cell p 74]) (h2:a.tmps.getD p undef=.pointer (some ⟨b,0,none⟩)) (hd:a.defers=[])
  (hc:W.heap[b]? = some (.cells #[x,y,z] 74 (0,0))) (hR:R (.returned (.agg #[x,y,z])) W):bodyPost Tryz.prog fn R .ret a W:=by
 have hl:(loadVar 74 ⟨b,0,none⟩).run Tryz.prog W=.ok (.agg #[x,y,z]) W:=
  run_loadVar_row W b 74 74 #[x,y,z] (0,0) _ hc Tryz.underlying74 rfl (by kernel_rfl)
 refine bodyPost_ret ?_ hd hR
 have h2':a.tmps[p]?.getD undef=.pointer (some ⟨b,0,none⟩):=by rw [← h2];simp
 simp [results,hf,h2',asAddr,hl]
theorem bits_or {m:Nat} (h:m < 32):bits .or .i64 (m:Int) 1=((m ||| 1:Nat):Int):=by
 have:∀ a:Fin 32,bits .or .i64 ((a.val:Nat):Int) 1=((a.val ||| 1:Nat):Int):=by decide +kernel
 exact this ⟨m,h⟩
theorem tright_of {n:ByteArray} {l m left:Nat} {ts:List Tok} (h:RightN n l m left ts) (hl:left≤4):rightT n.data.toList (l:Int) (m:Int)=true:=right_nat h.1 (Nat.le_trans h.2.2.1 hl) h.2.2.2.1
theorem must_of {n:ByteArray} {l m left:Nat} {ts:List Tok} (h:RightN n l m left ts) (hl:left≤4):mustV n l m=.agg #[.string n,.int .i64 l,.int .i64 ((m ||| 1:Nat):Int)]:=by
 unfold mustV
 rw [if_pos (tright_of h hl),bits_or]
 have:=h.2.2.2.1
 have hp:2 ^ (l+1)≤2 ^ 5:=Nat.pow_le_pow_right (by decide) (by have:=h.2.2.1;omega)
 omega
theorem list_of {n:ByteArray} {l m left:Nat} {ts:List Tok} (h:RightN n l m left ts) (hl:left≤3):listV n l m=yesT n ((l+1:Nat):Int) ((2*m:Nat):Int):=by
 unfold listV
 rw [if_pos ⟨tright_of h (by omega),by have:=h.2.2.1;omega⟩]
 have e1:(l:Int)+1=((l+1:Nat):Int):=by omega
 have e2:(m:Int)*2=((2*m:Nat):Int):=by omega
 rw [e1,e2]
def TypC (left:Nat) (ts:List Tok):Prop:=∀ (r d:Nat) (w:World),Rd w r ts d→Calls Tryz.prog 307 #[.pointer (some ⟨r,0,none⟩),.int .i64 ((4 - left:Nat):Int)] w fun e w'=>match typeR left ts with
    | .ok ((n,l,m),ts')=>e=.returned (.agg #[.string n,.int .i64 (l:Int),.int .i64 (m:Int)])∧Rd w' r ts' d∧Moved r w w'
    | .error x=>e=PanicE x∧Moved r w w'
theorem typ_name (left:Nat) (hleft:left≤4) (ts:List Tok) (hN:NamesT ts) (hb:atB 1 oB ts=false):TypC left ts:=by
 intro r d w h
 have K0:=Hd (TwoT.start w r (.string ⟨#[]⟩) (.int .i64 0) (.int .i64 0) (.string ⟨#[]⟩) (.int .i64 0) (.int .i64 0) h.lt)
 have R0:=Hd ((h.below (blw w (.cells #[.string ⟨#[]⟩,.int .i64 0,.int .i64 0] 74))).below (blw _ (.cells #[.string ⟨#[]⟩,.int .i64 0,.int .i64 0] 74)))
 have HA:=Hd (at_any r ts d 1 oB _ R0.out)
 have HK:=Hd (skip_any r ts d 1 oB _ R0.out)
 have hst:skipT 1 oB ts=ts:=by unfold skipT;rw [hb];rfl
 rw [hb] at HA HK
 rw [hst] at HK
 rw [typeR_name hb]
 have hT:=type_right left ts hN
 rw [typeR_name hb] at hT
 cases hn:nameR ts with
 | none =>
   have HP:=fun wx (hx:Rd wx r ts d)=>Hd (by have:=pname_any r ts d wx hx;rw [hn] at this;exact this)
   clear hT hst hb h hN
   show Calls _ _ _ _ fun e w'=>e=PanicE 2∧Moved r w w'
   go_enter Tryz.func307,Tryz.ntmps307
   go_wp2_with fail
   refine HA.out.mono ?_
   rintro e w1 ⟨rfl,rfl⟩
   go_wp2_with fail
   refine HK.out.mono ?_
   rintro e w2 ⟨rfl,r2,m2⟩
   have K2:=Hd (K0.out.next m2)
   have R2:=Hd r2
   clear r2 m2
   go_wp2_with fail
   refine (HP _ R2.out).out.mono ?_
   rintro e w3 ⟨rfl,m3⟩
   exact ⟨rfl,rfl,K2.out.2.2.1.trans m3⟩
 | some p =>
   obtain ⟨n,ts1⟩:=p
   have HP:=fun wx (hx:Rd wx r ts d)=>Hd (by have:=pname_any r ts d wx hx;rw [hn] at this;exact this)
   obtain ⟨g1,g2,g3⟩:=nameR_good hN hn
   have RN:=Hd (show RightN n 0 0 left ts1 from ⟨g1,g2,Nat.zero_le _,by decide,g3⟩)
   clear hT hst hb h hN hn g1 g2 g3
   obtain ⟨RES,hRES⟩:∃ RES,bangR n 0 0 ts1=RES:=⟨_,rfl⟩
   show Calls _ _ _ _ fun e w'=>match (.ok (bangR n 0 0 ts1):Except Int ((ByteArray × Nat × Nat) × List Tok)) with | .ok ((n,l,m),ts')=>e=.returned (.agg #[.string n,.int .i64 (l:Int),.int .i64 (m:Int)])∧Rd w' r ts' d∧Moved r w w' | .error x=>e=PanicE x∧Moved r w w'
   have hR:Hid (bangR n 0 0 ts1=RES):=Hd hRES
   rw [hRES]
   have hR:=Hd hRES.symm
   clear hRES
   go_enter Tryz.func307,Tryz.ntmps307
   go_wp2_with fail
   refine HA.out.mono ?_
   rintro e w1 ⟨rfl,rfl⟩
   go_wp2_with fail
   refine HK.out.mono ?_
   rintro e w2 ⟨rfl,r2,m2⟩
   have K2:=Hd (K0.out.next m2)
   have R2:=Hd r2
   clear r2 m2
   go_wp2_with fail
   refine (HP _ R2.out).out.mono ?_
   rintro e w3 ⟨rfl,r3,m3⟩
   have K3:=Hd (K2.out.next m3)
   have R3:=Hd r3
   clear r3 m3 HP HA HK K0 R0 K2 R2
   obtain ⟨k0,k1,k2,z0,z1,z2⟩:=ty_cells K3.out.2.1
   go_wp2_with fail
   clear k0 k1 k2 z0 z1 z2
   have K4:=Hd (K3.out.setn (.string n))
   have R4:=Hd (R3.out.set (b:=w.heap.size+1) (i:=0) (v:=.string n) (Nat.lt_succ_of_lt K3.out.2.2.2))
   clear K3 R3
   have HS:=Hd (skip_any r ts1 d 1 bB _ R4.out)
   have hbb:Hid (bangR n 0 0 ts1=if atB 1 bB ts1=true then ((n,0,0 ||| 1),ts1.tail) else ((n,0,0),ts1)):=Hd rfl
   have hst:Hid (skipT 1 bB ts1=if atB 1 bB ts1=true then ts1.tail else ts1):=Hd rfl
   generalize atB 1 bB ts1=q at *
   obtain ⟨k0,k1,k2,z0,z1,z2⟩:=ty_cells K4.out.2.1
   obtain ⟨j0,j1,j2,y0,y1,y2⟩:=ty_cells K4.out.1
   clear k0 k1 k2 z0 z1 z2 j0 j1 j2 y0 y1 y2
   go_wp2_with fail
   cases q with
   | false =>
     refine HS.out.mono ?_
     rintro e wa ⟨rfl,ra,ma⟩
     rw [hst.out] at ra
     have KA:=Hd (K4.out.next ma)
     have RA:=Hd ra
     obtain ⟨k0,k1,k2,z0,z1,z2⟩:=ty_cells KA.out.2.1
     obtain ⟨j0,j1,j2,y0,y1,y2⟩:=ty_cells KA.out.1
     clear ra ma HS
     go_wp2_with fail
     have KB:=Hd (KA.out.set1 (.string n) (.int .i64 (0:Nat)) (.int .i64 (0:Nat)))
     refine ret_tp rfl rfl rfl KB.out.1 ?_
     rw [hR.out,hbb.out]
     exact ⟨rfl,((RA.out.set (Nat.lt_of_lt_of_le KA.out.2.2.2 (Nat.le_refl _))).set (Nat.lt_of_lt_of_le KA.out.2.2.2 (Nat.le_refl _))).set (Nat.lt_of_lt_of_le KA.out.2.2.2 (Nat.le_refl _)),KB.out.2.2.1⟩
   | true =>
     refine HS.out.mono ?_
     rintro e wa ⟨rfl,ra,ma⟩
     rw [hst.out] at ra
     have KA:=Hd (K4.out.next ma)
     have RA:=Hd ra
     have HM:=fun wx=>Hd (by have h:=must_any n (0:Nat) (0:Nat) wx RN.out.2.1;rw [must_of RN.out hleft] at h;exact h)
     obtain ⟨k0,k1,k2,z0,z1,z2⟩:=ty_cells KA.out.2.1
     clear ra ma HS
     go_wp2_with fail
     refine (HM _).out.mono ?_
     rintro e wb ⟨rfl,hb⟩
     have KB:=Hd (KA.out.next (Moved.of_below hb))
     have RB:=Hd (RA.out.below hb)
     clear hb k0 k1 k2 z0 z1 z2 HM
     obtain ⟨k0,k1,k2,z0,z1,z2⟩:=ty_cells KB.out.2.1
     obtain ⟨j0,j1,j2,y0,y1,y2⟩:=ty_cells KB.out.1
     go_wp2_with fail
     have KC:=Hd ((KB.out.set2 (.string n) (.int .i64 (0:Nat)) (.int .i64 ((0 ||| 1:Nat):Int))).set1 (.string n) (.int .i64 (0:Nat)) (.int .i64 ((0 ||| 1:Nat):Int)))
     refine ret_tp rfl rfl rfl KC.out.1 ?_
     rw [hR.out,hbb.out]
     have hlt:=KB.out.2.2.2
     exact ⟨rfl,(((((RB.out.set (by omega)).set (by omega)).set (by omega)).set (by omega)).set (by omega)).set (by omega),KC.out.2.2.1⟩
end Go.Proofs.YtkacnnhdfkpenaaGreatDoor
