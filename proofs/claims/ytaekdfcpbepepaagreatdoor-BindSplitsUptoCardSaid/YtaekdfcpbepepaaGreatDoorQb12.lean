/- What a range over literal's places keeps, from round to round. -/
import Derived.Test.YtaekdfcpbepepaaGreatDoorQb11
import Derived.Laws.Entries
import Derived.Lib.RuneBytes
set_option maxRecDepth 100000
set_option maxHeartbeats 8000000
namespace Go.Proofs.YtaekdfcpbepepaaGreatDoor
open Go.RowKit
structure IJ (S:SchT) (KS:List ByteArray) (M B pb sb base d:Nat) (c0 c1 c2:Value) (pcs:Array Value) (G:Gh) (W:World):Prop where
 ie:IE S KS M B pb sb base c0 c1 c2 pcs G W
 ur:∀ b,G.2 b→b < B∨base≤b
 zd:G.1 d
section
variable {S:SchT} {KS:List ByteArray} {M B pb sb base d:Nat} {c0 c1 c2:Value} {pcs:Array Value} {G G':Gh} {W W':World}
theorem IJ.t (h:IJ S KS M B pb sb base d c0 c1 c2 pcs G W) (ht:TZ S.defs KS M base G G' W W'):IJ S KS M B pb sb base d c0 c1 c2 pcs G' W':=
 ⟨h.ie.t ht,fun b hb=>(ht.u b hb).elim (h.ur b) (fun h1=>.inr (Nat.le_trans h.ie.hbase h1)),by rw [ht.z];exact h.zd⟩
theorem IJ.r (h:IJ S KS M B pb sb base d c0 c1 c2 pcs G W) (hr:RZ S.defs KS M G G' W W') (hz:G'.1 d):IJ S KS M B pb sb base d c0 c1 c2 pcs G' W':=
 ⟨h.ie.r hr,fun b hb=>(hr.u b hb).elim (h.ur b) (fun h1=>.inr (Nat.le_trans h.ie.hbase h1)),hz⟩
theorem IJ.put_r (h:IJ S KS M B pb sb base d c0 c1 c2 pcs G W) (hdM:d ≠ M) (o:Obj):RZ S.defs KS M G G W (W.putObj d o):=
 ⟨⟨rfl,rfl,rfl,by simp,fun b _ hn=>World.putObj_heap_other (fun e=>hn (.inr (e ▸ h.zd)))⟩,fun k=>k.keep (by simp) (World.putObj_heap_other (by omega)) (fun b hb=>World.putObj_heap_other (fun e=>h.ie.zu d h.zd (e ▸ hb))),fun _ h=>.inl h,fun _ h=>h,fun _ _ h=>h,fun b hb=>by simp;exact h.ie.zlt b hb,fun b hb=>h.ie.zu b hb⟩
theorem IJ.put (h:IJ S KS M B pb sb base d c0 c1 c2 pcs G W) (hdM:d ≠ M) (o:Obj):IJ S KS M B pb sb base d c0 c1 c2 pcs G (W.putObj d o):=h.r (h.put_r hdM o) h.zd
theorem IJ.below (h:IJ S KS M B pb sb base d c0 c1 c2 pcs G W) (hb:Below W.heap.size W W'):IJ S KS M B pb sb base d c0 c1 c2 pcs G W':=h.t (TZ.of_below h.ie.ok.lt h.ie.ok.ok.lt hb)
theorem IJ.comp (h:IJ S KS M B pb sb base d c0 c1 c2 pcs G W) {W1 W3:World} {o o':Obj} (hdM:d ≠ M) (hb:Below W.heap.size W W1) (hr:RZ S.defs KS M G G' (W1.putObj d o) W3):RZ S.defs KS M G G' W (W3.putObj d o'):=by
 have hs:=hb.size
 have hs3:=hr.mo.size
 rw [World.putObj_size] at hs3
 have hu:=hr.u
 rw [World.putObj_size] at hu
 have hd:=h.ie.zlt d h.zd
 refine ⟨⟨hr.mo.os.trans hb.os,hr.mo.tape.trans hb.tape,hr.mo.output.trans hb.output,by simp;omega,fun b hlt hn=>?_⟩,fun k=>?_,fun b hb'=>(hu b hb').imp_right (fun h=>by omega),hr.um,fun b hlt hz=>hr.old b (by simp;omega) hz,fun b hz=>by simp;exact hr.lt b hz,hr.zu⟩
 · have hne:b ≠ d:=fun e=>hn (.inr (e ▸ h.zd))
   rw [World.putObj_heap_other hne,hr.mo.block b (by simp;omega) hn,World.putObj_heap_other hne]
   exact hb.block b hlt
 · have k1:=k.keep hs (hb.block M k.ok.lt) (fun b hu=>hb.block b (k.lt b hu))
   have k2:MOU S.defs G.2 KS M (W1.putObj d o):=k1.keep (by simp) (World.putObj_heap_other (by omega)) (fun b hb=>World.putObj_heap_other (fun e=>h.ie.zu d h.zd (e ▸ hb)))
   exact (hr.ok k2).keep (by simp) (World.putObj_heap_other (by omega)) (fun b hb=>World.putObj_heap_other (fun e=>by
    subst e
    rcases hu b hb with h1|h1
    · exact h.ie.zu b h.zd h1
    · omega))
theorem RZ.of_cache (h:IJ S KS M B pb sb base d c0 c1 c2 pcs G W) (hm:MoX M W W') (hk:MOK S.defs (XU G.2 W) KS M W'):RZ S.defs KS M G (G.1,U3 G.2 W W'.heap.size) W W':=
 ⟨⟨hm.os,hm.tape,hm.output,hm.size,fun b hb hn=>hm.block b hb (fun e=>hn (.inl e))⟩,fun k=>k.of_xu (hk.turn (fun b hb hx=>hx.elim id (fun h=>absurd hb (by omega)))) (Nat.le_refl _),fun b hb=>hb.2,fun b hb=>⟨Nat.lt_of_lt_of_le (h.ie.ok.lt b hb) hm.size,.inl hb⟩,fun _ _ h=>h,fun b hz=>Nat.lt_of_lt_of_le (h.ie.zlt b hz) hm.size,fun b hz hu=>by
  rcases hu.2 with h1|h1
  · exact h.ie.zu b hz h1
  · have:=h.ie.zlt b hz;omega⟩
end
theorem IE.start {S:SchT} {KS:List ByteArray} {M B pb sb base:Nat} {c0 c1 c2:Value} {pcs:Array Value} {W:World} (Zx:Nat→Prop) (hB:B≤M) (hMb:M < base) (hbase:base≤W.heap.size) (hz:∀ b,Zx b→B≤b∧b < W.heap.size∧b ≠ pb∧b ≠ sb) (hp:pb ≠ M∧pb < base) (hs:sb ≠ M∧sb < base) (ok:MOK S.defs (fun b=>¬ b < B) KS M W)
  (pbox:W.heap[pb]? = some (.cells pcs 163 (0,0))) (sbox:W.heap[sb]? = some (.cells #[c0,c1,c2,.map (some M)] 157 (0,0))) (sch:TS W (fun b=>b < B) (encSch S) [c0,c1,c2]):IE S KS M B pb sb base c0 c1 c2 pcs (Zx,fun b=>b < B) W:=
 ⟨fun b h=>(hz b h).2.1,fun b hb h=>by have:=(hz b h).1;omega,fun b h (hu:b < B)=>by have:=(hz b h).1;omega,fun _ h=>h,⟨fun h=>(hz _ h).2.2.1 rfl,hp⟩,⟨fun h=>(hz _ h).2.2.2 rfl,hs⟩,hB,hMb,hbase,⟨ok,fun b (h:b < B)=>by omega,by show ¬ M < B;omega⟩,pbox,sbox,sch⟩
theorem low_put {B d:Nat} {w W:World} (h:Below B w W) (hd:B≤d) (o:Obj):Below B w (W.putObj d o):=
 ⟨h.os,h.tape,h.output,by simp;exact h.size,fun b hb=>(World.putObj_heap_other (by omega)).trans (h.block b hb)⟩
theorem MoX.low {M B:Nat} {w W W':World} (h:Below B w W) (hm:MoX M W W') (hB:B≤M) (hs:B≤w.heap.size):Below B w W':=h.trans (hm.below hB (Nat.le_trans hs h.size))
theorem postM_ret {n:Nat} {P:Program} {fn:Func} {R:Ending→World→Prop} {a:Act} {w:World} {v:Value} (hr:(results fn a.tmps).run P w=.ok v w) (hd:a.defers=[]) (hR:R (.returned v) w):bodyPostM Fence.wide n P fn R .ret a w:=by
 show LeavesInM _ _ _ _ _ _ a.defers _ _
 rw [hd]
 exact ⟨v,hr,hR⟩
theorem postM_mark {n:Nat} {P:Program} {fn:Func} {R:Ending→World→Prop} {a:Act} {w:World} {v:Value} {D:Nat} (hd:a.defers=[{ target:=.collected D,args:=#[] }]) (hK:w.heap[D]? = some (.deferred (some []))) (hr:∀ w',(∀ b,b ≠ D→w'.heap[b]? = w.heap[b]?)→(results fn a.tmps).run P w'=.ok v w') (hR:∀ w',w'.os=w.os→w'.tape=w.tape→w'.output=w.output→w'.heap.size=w.heap.size→(∀ b,b ≠ D→w'.heap[b]? = w.heap[b]?)→R (.returned v) w'):bodyPostM Fence.wide n P fn R .ret a w:=by
 show LeavesInM _ _ _ _ _ _ a.defers _ _
 rw [hd]
 refine ⟨by simp,.inl ⟨_,_,rfl,run_takeDeferred hK,?_⟩⟩
 exact ⟨v,hr _ (fun b hb=>World.putObj_heap_other hb),hR _ rfl rfl rfl (by simp) (fun b hb=>World.putObj_heap_other hb)⟩
theorem res_bool {fn:Func} {a:Act} {W:World} {x:Value} {p b:Nat} (hf:fn.results=#[.cell p 4]) (h2:a.tmps.getD p undef=.pointer (some ⟨b,0,none⟩)) (hc5:W.cell? ⟨b,0,none⟩=some x):(results fn a.tmps).run Tryz.prog W=.ok x W:=by
 have h2':a.tmps[p]?.getD undef=.pointer (some ⟨b,0,none⟩):=by rw [← h2];simp
 have hu:=Tryz.underlying4
 simp [results,hf,h2',asAddr,go_sem,hc5]
theorem ret_scm {R:Ending→World→Prop} {fn:Func} {a:Act} {W:World} {x y z u:Value} {b:Nat} (hf:fn.results=#[.cell 2 157]) (h2:a.tmps.getD 2 undef=.pointer (some ⟨b,0,none⟩)) (hd:a.defers=[])
  (hc:W.heap[b]? = some (.cells #[x,y,z,u] 157 (0,0))) (hR:R (.returned (.agg #[x,y,z,u])) W):bodyPost Tryz.prog fn R .ret a W:=by
 have hl:(loadVar 157 ⟨b,0,none⟩).run Tryz.prog W=.ok (.agg #[x,y,z,u]) W:=
  run_loadVar_row W b 157 157 #[x,y,z,u] (0,0) _ hc Tryz.underlying157 rfl (by kernel_rfl)
 refine bodyPost_ret ?_ hd hR
 have h2':a.tmps[2]?.getD undef=.pointer (some ⟨b,0,none⟩):=by rw [← h2];simp
 simp [results,hf,h2',asAddr,hl]
theorem ask_any (A:Option Addr) (n k:Nat) (q m:ByteArray) (w:World) :
  Calls Tryz.prog 156 #[.agg #[.slice A n k,.string q,.string m]] w fun e w'=>∃ M,e=.returned (.agg #[.slice A n k,.string q,.string m,.map (some M)])∧Below w.heap.size w w'∧w.heap.size≤M∧∀ D X KS,MOK D X KS M w':=by
 have hmm:=@run_makeMap Tryz.prog
 go_enter Tryz.func156,Tryz.ntmps156
 go_wp2_with fail
 have hb:Below w.heap.size w ((w.alloc (.cells #[.slice A n k,.string q,.string m] 24)).alloc (.cells #[.slice A n k,.string q,.string m,.map (some (w.heap.size+1+1))] 157)):=tbl w _ _
 refine ret_scm (b:=w.heap.size+1) (x:=.slice A n k) (y:=.string q) (z:=.string m) (u:=.map (some (w.heap.size+1+1))) rfl rfl rfl ((Below.heap_alloc _ _ _ (by simp)).trans (heap_two _ _ _)) ⟨w.heap.size+1+1,rfl,hb.alloc (by simp;omega) _,by omega,fun D X KS=>?_⟩
 have:=MOK.made D X KS ((w.alloc (.cells #[.slice A n k,.string q,.string m] 24)).alloc (.cells #[.slice A n k,.string q,.string m,.map (some (w.heap.size+1+1))] 157))
 simpa using this
theorem places_any (A A3 A4:Option Addr) (n k M:Nat) (q m nm ss:ByteArray) (l mu kd nn:Int) (hs:Bool) (l3 k3 l4 k4:Nat) (w:World) :
  Calls Tryz.prog 157 #[.agg #[.slice A n k,.string q,.string m,.map (some M)],.agg #[.string nm,.int .i64 l,.int .i64 mu,.bool hs,.int .i64 kd,.int .i64 nn,.string ss,.slice A3 l3 k3,.slice A4 l4 k4]] w fun e w'=>e=.returned (.func (.func 178) #[] #[.pointer (some ⟨w.heap.size+1,0,none⟩),.pointer (some ⟨w.heap.size,0,none⟩)])∧w'=(w.alloc (.cells #[.slice A n k,.string q,.string m,.map (some M)] 157)).alloc (.cells #[.string nm,.int .i64 l,.int .i64 mu,.bool hs,.int .i64 kd,.int .i64 nn,.string ss,.slice A3 l3 k3,.slice A4 l4 k4] 163):=by
 go_enter Tryz.func157,Tryz.ntmps157
 go_wp2_with fail
 go_ret
 exact ⟨rfl,rfl⟩
def byt (l:List UInt8) (k:Nat):Int:=((l.getD k 0).toNat:Int)
def contB (b:Int):Bool:=decide (128≤b∧b≤191)
def lead:Nat→Int|0=>0|1=>192|2=>224|_=>240
def mask:Nat→Int|0=>128|1=>224|2=>240|_=>248
def least:Nat→Int|0=>0|1=>128|2=>2048|_=>65536
def wide:Nat→Int|0=>128|1=>32|2=>16|_=>8
def acc (l:List UInt8) (c:Int):Nat→Int
 | 0=>c
 | 1=>c
 | k+2=>acc l c (k+1)*64+(byt l (k+1) - 128)
def contTo (l:List UInt8):Nat→Bool
 | 0=>true
 | 1=>true
 | k+2=>contTo l (k+1) && contB (byt l (k+1))
def leads (k:Nat) (a:Int):Prop:=lead k≤a∧a < lead k+wide k
instance (k:Nat) (a:Int):Decidable (leads k a):=by unfold leads;infer_instance
def fair (k:Nat) (c:Int):Prop:=least k≤c∧c≤1114111∧halfB c=false
instance (k:Nat) (c:Int):Decidable (fair k c):=by unfold fair;infer_instance
def decK (k:Nat) (l:List UInt8):Option (Int × Int):=
 if k < l.length∧leads k (byt l 0)∧contTo l (k+1)=true∧fair k (acc l (byt l 0 - lead k) (k+1)) then some (acc l (byt l 0 - lead k) (k+1),(k:Int)+1) else none
def dec (l:List UInt8):Int × Int:=
 match decK 0 l with
 | some p=>p
 | none=>match decK 1 l with
   | some p=>p
   | none=>match decK 2 l with
     | some p=>p
     | none=>match decK 3 l with
       | some p=>p
       | none=>(0,0)
def noneTo (l:List UInt8) (k:Nat):Prop:=∀ j,j < k→decK j l=none
theorem noneTo_succ {l:List UInt8} {k:Nat} (h:noneTo l k) (hk:decK k l=none):noneTo l (k+1):=fun j hj=>by
 rcases Nat.lt_or_ge j k with h'|h'
 · exact h j h'
 · obtain rfl:j=k:=by omega
   exact hk
theorem dec_none {l:List UInt8} (h:noneTo l 4):dec l=(0,0):=by
 simp [dec,h 0 (by omega),h 1 (by omega),h 2 (by omega),h 3 (by omega)]
theorem dec_some {l:List UInt8} {k:Nat} {p:Int × Int} (hk:k < 4) (h:noneTo l k) (hp:decK k l=some p):dec l=p:=by
 match k,hk with
 | 0,_=>simp [dec,hp]
 | 1,_=>simp [dec,h 0 (by omega),hp]
 | 2,_=>simp [dec,h 0 (by omega),h 1 (by omega),hp]
 | 3,_=>simp [dec,h 0 (by omega),h 1 (by omega),h 2 (by omega),hp]
theorem byt_lt (l:List UInt8) (k:Nat):0≤byt l k∧byt l k < 256:=by
 have:=(l.getD k 0).toNat_lt
 unfold byt;omega
theorem byt_drop (s:ByteArray) (i k:Nat) (h:i+k < s.size):(s[i+k].toNat:Int)=byt (s.data.toList.drop i) k:=by
 unfold byt
 have hl:s.data.toList.length=s.size:=Array.length_toList
 rw [List.getD_eq_getElem?_getD,List.getElem?_drop,List.getElem?_eq_getElem (by omega)]
 rfl
theorem acc_bd (l:List UInt8) (c:Int) (h0:0≤c) (h1:c < 128):∀ k,contTo l k=true→0≤acc l c k∧acc l c k < 128*64 ^ (k - 1):=by
 intro k
 induction k with
 | zero=>intro _;exact ⟨h0,by simpa [acc] using h1⟩
 | succ k ih =>
   cases k with
   | zero=>intro _;exact ⟨h0,by simpa [acc] using h1⟩
   | succ k =>
     intro h
     simp only [contTo,Bool.and_eq_true] at h
     obtain ⟨a,b⟩:=ih h.1
     have hc:=h.2
     simp only [contB,decide_eq_true_eq] at hc
     simp only [acc]
     refine ⟨by omega,?_⟩
     rw [show k+1+1 - 1=(k+1 - 1)+1 from by omega,Int.pow_succ]
     omega
theorem decK_leads {l:List UInt8} {k:Nat} (h : ¬ leads k (byt l 0)):decK k l=none:=by
 unfold decK;rw [if_neg (fun x=>h x.2.1)]
theorem decK_short {l:List UInt8} {k:Nat} (h : ¬ k < l.length):decK k l=none:=by
 unfold decK;rw [if_neg (fun x=>h x.1)]
theorem decK_fair {l:List UInt8} {k:Nat} (h : ¬ fair k (acc l (byt l 0 - lead k) (k+1))):decK k l=none:=by
 unfold decK;rw [if_neg (fun x=>h x.2.2.2)]
theorem contTo_mono {l:List UInt8} : ∀ (k j:Nat),j≤k→contTo l k=true→contTo l j=true:=by
 intro k
 induction k with
 | zero => intro j hj h;obtain rfl:j=0:=by omega
           exact h
 | succ k ih =>
   intro j hj h
   rcases Nat.lt_or_ge j (k+1) with h'|h'
   · refine ih j (by omega) ?_
     cases k with
     | zero=>rfl
     | succ k=>simp only [contTo,Bool.and_eq_true] at h;exact h.1
   · obtain rfl:j=k+1:=by omega
     exact h
theorem decK_cont {l:List UInt8} {k j:Nat} (h0:1≤j) (hj:j≤k) (h : ¬ contB (byt l j)=true):decK k l=none:=by
 unfold decK;rw [if_neg (fun x=>h ?_)]
 have:=contTo_mono (k+1) (j+1) (by omega) x.2.2.1
 match j,h0 with
 | j+1,_=>simp only [contTo,Bool.and_eq_true] at this;exact this.2
theorem decK_yes {l:List UInt8} {k:Nat} (h1:k < l.length) (h2:leads k (byt l 0)) (h3:contTo l (k+1)=true) (h4:fair k (acc l (byt l 0 - lead k) (k+1))) :
 decK k l=some (acc l (byt l 0 - lead k) (k+1),(k:Int)+1):=by unfold decK;rw [if_pos ⟨h1,h2,h3,h4⟩]
theorem leads_bd {k:Nat} {a:Int} (h:leads k a):0≤a - lead k∧a - lead k < 128:=by
 unfold leads at h
 match k,h with
 | 0,h=>simp only [lead,wide] at *;omega
 | 1,h=>simp only [lead,wide] at *;omega
 | 2,h=>simp only [lead,wide] at *;omega
 | k+3,h=>simp only [lead,wide] at *;omega
theorem contTo_succ {l:List UInt8} {j:Nat} (h0:1≤j) (h:contTo l j=true) (hc:contB (byt l j)=true):contTo l (j+1)=true:=by
 match j,h0 with
 | j+1,_=>simp [contTo,h,hc]
theorem acc_succ {l:List UInt8} {c:Int} {j:Nat} (h0:1≤j):acc l c (j+1)=acc l c j*64+(byt l j - 128):=by
 match j,h0 with
 | j+1,_=>rfl
theorem acc_small {l:List UInt8} {c:Int} {j:Nat} (h0:0≤c) (h1:c < 128) (hj:j≤4) (h:contTo l j=true):0≤acc l c j∧acc l c j < 33554433:=by
 have hx:∀ (k:Nat),k≤3→(128:Int)*64 ^ k≤33554432:=by
  intro k hk
  match k,hk with
  | 0,_=>decide
  | 1,_=>decide
  | 2,_=>decide
  | 3,_=>decide
 have hb:0≤acc l c j∧acc l c j < 128*64 ^ (j - 1):=acc_bd l c h0 h1 j h
 have:=hx (j - 1) (by omega)
 omega
theorem and_mask_all:∀ k:Fin 4,∀ a:Fin 256,(bits .and .i64 ((a.val:Nat):Int) (mask k.val)=lead k.val ↔ leads k.val ((a.val:Nat):Int))∧(leads k.val ((a.val:Nat):Int)→bits .andNot .i64 ((a.val:Nat):Int) (mask k.val)=((a.val:Nat):Int) - lead k.val):=by decide +kernel
theorem and_tail_all:∀ a:Fin 256,(bits .and .i64 ((a.val:Nat):Int) 192=128 ↔ contB ((a.val:Nat):Int)=true)∧(contB ((a.val:Nat):Int)=true→bits .and .i64 ((a.val:Nat):Int) 63=((a.val:Nat):Int) - 128):=by decide +kernel
theorem and_mask {k:Nat} (hk:k < 4) {a:Int} (h0:0≤a) (h1:a < 256):(bits .and .i64 a (mask k)=lead k ↔ leads k a)∧(leads k a→bits .andNot .i64 a (mask k)=a - lead k):=by
 obtain ⟨n,rfl⟩:=Int.eq_ofNat_of_zero_le h0
 exact and_mask_all ⟨k,hk⟩ ⟨n,by omega⟩
theorem and_tail {a:Int} (h0:0≤a) (h1:a < 256):(bits .and .i64 a 192=128 ↔ contB a=true)∧(contB a=true→bits .and .i64 a 63=a - 128):=by
 obtain ⟨n,rfl⟩:=Int.eq_ofNat_of_zero_le h0
 exact and_tail_all ⟨n,by omega⟩
theorem ofInt_i64 (a:Nat) (ha:a < 9223372036854775808):(BitVec.ofInt 64 (a:Int)).toNat=a:=by
 rw [BitVec.ofInt_natCast,BitVec.toNat_ofNat];exact Nat.mod_eq_of_lt (by omega)
theorem or_six {c d:Int} (h0:0≤c) (h1:c < 134217728) (h2:0≤d) (h3:d < 64):bits .or .i64 (c*64) d=c*64+d:=by
 obtain ⟨a,rfl⟩:=Int.eq_ofNat_of_zero_le h0
 obtain ⟨b,rfl⟩:=Int.eq_ofNat_of_zero_le h2
 have e:((a:Int)*64)=((a*64:Nat):Int):=by omega
 rw [e]
 show IntKind.i64.wrap ((BitVec.ofInt 64 ((a*64:Nat):Int) ||| BitVec.ofInt 64 (b:Int)).toNat:Int)=_
 have h:=Nat.shiftLeft_add_eq_or_of_lt (b:=b) (i:=6) (by omega) a
 rw [BitVec.toNat_or,ofInt_i64 _ (by omega),ofInt_i64 b (by omega),show a*64=a <<< 6 from by rw [Nat.shiftLeft_eq],← h,IntKind.wrap_i64,Nat.shiftLeft_eq]
 omega
theorem decK_bd {k:Nat} {l:List UInt8} {p:Int × Int} (hk:k < 4) (h:decK k l=some p):p.2=(k:Int)+1∧k+1≤l.length∧0≤p.1∧fair k p.1:=by
 unfold decK at h
 split at h
 · rename_i hc
   obtain ⟨h1,h2,h3,h4⟩:=hc
   injection h with h
   subst h
   have hls:=leads_bd h2
   exact ⟨rfl,by omega,(acc_small hls.1 hls.2 (by omega) h3).1,h4⟩
 · cases h
theorem dec_cases (l:List UInt8):(noneTo l 4∧dec l=(0,0))∨∃ k,k < 4∧noneTo l k∧decK k l=some (dec l):=by
 cases h0:decK 0 l with
 | some p=>exact .inr ⟨0,by omega,fun j hj=>by omega,by rw [dec_some (k:=0) (by omega) (fun j hj=>by omega) h0,h0]⟩
 | none =>
   have n1 : noneTo l 1 := fun j hj => by obtain rfl:j=0:=by omega
                                          exact h0
   cases h1:decK 1 l with
   | some p=>exact .inr ⟨1,by omega,n1,by rw [dec_some (k:=1) (by omega) n1 h1,h1]⟩
   | none =>
     have n2:=noneTo_succ n1 h1
     cases h2:decK 2 l with
     | some p=>exact .inr ⟨2,by omega,n2,by rw [dec_some (k:=2) (by omega) n2 h2,h2]⟩
     | none =>
       have n3:=noneTo_succ n2 h2
       cases h3:decK 3 l with
       | some p=>exact .inr ⟨3,by omega,n3,by rw [dec_some (k:=3) (by omega) n3 h3,h3]⟩
       | none=>exact .inl ⟨noneTo_succ n3 h3,dec_none (noneTo_succ n3 h3)⟩
theorem dec_bd (l:List UInt8):0≤(dec l).2∧(dec l).2≤4∧(dec l).2≤l.length∧0≤(dec l).1∧(dec l).1≤1114111∧halfB (dec l).1=false:=by
 rcases dec_cases l with ⟨_,h⟩|⟨k,hk,_,h⟩
 · rw [h];simp [halfB]
 · obtain ⟨h1,h2,h3,h4⟩:=decK_bd hk h
   unfold fair at h4
   exact ⟨by omega,by omega,by omega,h3,h4.2.1,h4.2.2⟩
def codesF:Nat→List UInt8→Option (List Int)
 | _,[]=>some []
 | 0,_ :: _=>none
 | n+1,b :: t=>if (dec (b :: t)).2=0 then none else (codesF n ((b :: t).drop (dec (b :: t)).2.toNat)).map ((dec (b :: t)).1 :: ·)
def codes (l:List UInt8):Option (List Int):=codesF l.length l
theorem codesF_enough:∀ (n m:Nat) (l:List UInt8),l.length≤n→l.length≤m→codesF n l=codesF m l:=by
 intro n
 induction n with
 | zero =>
   intro m l h _
   have:l=[]:=List.eq_nil_of_length_eq_zero (by omega)
   subst this
   cases m<;>rfl
 | succ n ih =>
   intro m l hn hm
   cases l with
   | nil=>cases m<;>rfl
   | cons b t =>
     cases m with
     | zero=>simp at hm
     | succ m =>
       have hb:=dec_bd (b :: t)
       simp only [codesF]
       split
       · rfl
       · rename_i h0
         rw [ih m _ (by simp only [List.length_drop,List.length_cons] at *;omega) (by simp only [List.length_drop,List.length_cons] at *;omega)]
theorem codes_bad {l:List UInt8} (h:l ≠ []) (h0:(dec l).2=0):codes l=none:=by
 cases l with
 | nil=>exact absurd rfl h
 | cons b t=>simp only [codes,List.length_cons,codesF,if_pos h0]
theorem codes_step {l:List UInt8} (h:l ≠ []) (h0:(dec l).2 ≠ 0):codes l=(codes (l.drop (dec l).2.toNat)).map ((dec l).1 :: ·):=by
 cases l with
 | nil=>exact absurd rfl h
 | cons b t =>
   have hb:=dec_bd (b :: t)
   show codesF (t.length+1) (b :: t)=_
   simp only [codesF,if_neg h0]
   rw [codesF_enough t.length ((b :: t).drop (dec (b :: t)).2.toNat).length _ (by simp only [List.length_drop,List.length_cons] at *;omega) (Nat.le_refl _)]
   rfl
def eachP (p:Int→Bool) (l:List UInt8):Bool:=
 match codes l with
 | some cs=>cs.all p
 | none=>false
theorem eachP_bad {p:Int→Bool} {l:List UInt8} (h:l ≠ []) (h0:(dec l).2=0):eachP p l=false:=by simp [eachP,codes_bad h h0]
theorem eachP_step {p:Int→Bool} {l:List UInt8} (h:l ≠ []) (h0:(dec l).2 ≠ 0):eachP p l=(p (dec l).1 && eachP p (l.drop (dec l).2.toNat)):=by
 unfold eachP
 rw [codes_step h h0]
 cases codes (l.drop (dec l).2.toNat) with
 | none=>simp
 | some cs=>simp
def goodB (l:List UInt8):Bool:=eachP (fun _=>true) l
def pairUp:List Int→Option (List Int)
 | []=>some []
 | [c]=>if c < 0∨65536≤c∨halfB c=true then none else some [c]
 | c :: d :: t=>if c < 0∨65536≤c then none else if halfB c=true then (if pairB c d=true then (pairUp t).map ((65536+1024*(c - 55296)+d - 56320) :: ·) else none) else (pairUp (d :: t)).map (c :: ·)
def bytesOf (cs:List Int):List UInt8:=cs.flatMap Lib.encodeRune
def joinL (l:List Int):Option (List UInt8):=(pairUp l).map bytesOf
theorem pairUp_one {c:Int} {t:List Int} (h0 : ¬ c < 0) (h1 : ¬ 65536≤c) (h2:halfB c=false):pairUp (c :: t)=(pairUp t).map (c :: ·):=by
 cases t with
 | nil=>simp [pairUp,h0,h1,h2]
 | cons d t=>simp [pairUp,h0,h1,h2]
def digU (b:UInt8):Bool:=digB (b.toNat:Int)
def letU (b:UInt8):Bool:=letB (b.toNat:Int)
def isGap (b:UInt8):Bool:=b == 9 || b == 10 || b == 13 || b == 32 || b == 44
def noEol (b:UInt8):Bool:=!(b == 10 || b == 13)
def pre (p l:List UInt8):Bool:=p.isPrefixOf l
def gapL:List UInt8→Nat
 | []=>0
 | b :: t=>if isGap b then 1 else if b == 35 then 1+(t.takeWhile noEol).length else if pre [239,187,191] (b :: t) then 3 else 0
def runL (l:List UInt8):Nat:=(l.takeWhile digU).length
def fracL:List UInt8→Nat
 | []=>0
 | b :: t=>if b == 46 then (if runL t=0 then 0 else 1+runL t) else 0
def signL:List UInt8→Nat
 | []=>0
 | b :: _=>if b == 43 || b == 45 then 1 else 0
def expoL:List UInt8→Nat
 | []=>0
 | b :: t=>if b == 101 || b == 69 then (if runL (t.drop (signL t))=0 then 0 else 1+signL t+runL (t.drop (signL t))) else 0
def minusL:List UInt8→Nat
 | []=>0
 | b :: _=>if b == 45 then 1 else 0
def wholeL:List UInt8→Nat
 | []=>0
 | b :: t=>if b == 48 then 1 else runL (b :: t)
def nmL (l:List UInt8):Nat × Int:=
 if wholeL (l.drop (minusL l))=0 then (0,0) else
  (minusL l+wholeL (l.drop (minusL l))+fracL (l.drop (minusL l+wholeL (l.drop (minusL l))))+expoL (l.drop (minusL l+wholeL (l.drop (minusL l))+fracL (l.drop (minusL l+wholeL (l.drop (minusL l)))))),
   if fracL (l.drop (minusL l+wholeL (l.drop (minusL l))))=0∧expoL (l.drop (minusL l+wholeL (l.drop (minusL l))+fracL (l.drop (minusL l+wholeL (l.drop (minusL l))))))=0 then 3 else 4)
def behindB:List UInt8→Bool
 | []=>false
 | b :: _=>digU b || letU b || b == 46
def nbL (l:List UInt8):Nat × Int:=
 if (nmL l).1=0 then (0,0) else if behindB (l.drop (nmL l).1) then (0,0) else nmL l
def kindL (l:List UInt8):Int:=if (nbL l).1 < l.length then 0 else (nbL l).2
theorem takeWhile_le (p:UInt8→Bool) (l:List UInt8):(l.takeWhile p).length≤l.length:=(List.takeWhile_sublist p).length_le
theorem pre_len {p l:List UInt8} (h:pre p l=true):p.length≤l.length:=by
 unfold pre at h
 rw [List.isPrefixOf_iff_prefix] at h
 exact h.length_le
theorem runL_le (l:List UInt8):runL l≤l.length:=takeWhile_le _ _
theorem fracL_le (l:List UInt8):fracL l≤l.length:=by
 cases l with
 | nil=>simp [fracL]
 | cons b t =>
   have:=runL_le t
   simp only [fracL,List.length_cons]
   split
   · split<;>omega
   · omega
theorem signL_le (l:List UInt8):signL l≤l.length:=by
 cases l with
 | nil=>simp [signL]
 | cons b t=>simp only [signL,List.length_cons];split<;>omega
theorem expoL_le (l:List UInt8):expoL l≤l.length:=by
 cases l with
 | nil=>simp [expoL]
 | cons b t =>
   have:=signL_le t
   have:=runL_le (t.drop (signL t))
   simp only [expoL,List.length_cons,List.length_drop] at *
   split
   · split<;>omega
   · omega
theorem minusL_le (l:List UInt8):minusL l≤l.length:=by
 cases l with
 | nil=>simp [minusL]
 | cons b t=>simp only [minusL,List.length_cons];split<;>omega
theorem wholeL_le (l:List UInt8):wholeL l≤l.length:=by
 cases l with
 | nil=>simp [wholeL]
 | cons b t =>
   have:=runL_le (b :: t)
   simp only [wholeL]
   split
   · simp
   · exact this
end Go.Proofs.YtaekdfcpbepepaaGreatDoor
