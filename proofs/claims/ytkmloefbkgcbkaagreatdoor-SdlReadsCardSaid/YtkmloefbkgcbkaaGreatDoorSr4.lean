/- The walks of seineref1.Get, Int and Text. -/
import Derived.Test.YtkmloefbkgcbkaaGreatDoorSr3
import Derived.Laws.Rows
import Derived.Laws.BitsAllLaws
import Derived.Laws.BitsLemmas
import Derived.Laws.Entries
import Derived.Lib.RuneBytes
set_option maxRecDepth 100000
set_option maxHeartbeats 4000000
namespace Go.Proofs.YtkmloefbkgcbkaaGreatDoor
open Go.RowKit
def VT.zero:VT:=.mk 0 0 ⟨#[]⟩ .nil .nil
def VM.drop:VM→Nat→VM
 | m,0=>m
 | .nil,_+1=>.nil
 | .cons _ _ t,j+1=>t.drop j
theorem V7 {R:Ending→World→Prop} {fn:Func} {a:Act} {W:World} {c0 c1 c2 c3 c4:Value} {p b:Nat} (hf:fn.results=#[.cell p 94]) (h2:a.tmps.getD p undef=.pointer (some ⟨b,0,none⟩)) (hd:a.defers=[])
  (hc:W.heap[b]? = some (.cells #[c0,c1,c2,c3,c4] 94 (0,0))) (hR:R (.returned (.agg #[c0,c1,c2,c3,c4])) W):bodyPost Tryz.prog fn R .ret a W:=by
 have hl:(loadVar 94 ⟨b,0,none⟩).run Tryz.prog W=.ok (.agg #[c0,c1,c2,c3,c4]) W:=
  run_loadVar_row W b 94 94 #[c0,c1,c2,c3,c4] (0,0) _ hc Tryz.underlying94 rfl (by kernel_rfl)
 refine bodyPost_ret ?_ hd hR;have h2':a.tmps[p]?.getD undef=.pointer (some ⟨b,0,none⟩):=by rw [← h2];simp
 simp [results,hf,h2',asAddr,hl]
theorem Yhc (z:Int) (w:World) :
  Calls Tryz.prog 123 #[.int .i64 z] w fun e w'=>e=.returned (.agg #[.int .i64 2,.int .i64 z,.string ⟨#[]⟩,.slice none 0 0,.slice none 0 0])∧Below w.heap.size w w':=by
 go_enter Tryz.func123,Tryz.ntmps123
 go_wp2_with fail
 exact V7 rfl rfl rfl (heap_alloc_new _ _) ⟨rfl,(Below.refl _ _).alloc (Nat.le_refl _) _⟩
theorem Yce (s:ByteArray) (w:World) :
  Calls Tryz.prog 124 #[.string s] w fun e w'=>e=.returned (.agg #[.int .i64 4,.int .i64 0,.string s,.slice none 0 0,.slice none 0 0])∧Below w.heap.size w w':=by
 go_enter Tryz.func124,Tryz.ntmps124
 go_wp2_with fail
 exact V7 rfl rfl rfl (heap_alloc_new _ _) ⟨rfl,(Below.refl _ _).alloc (Nat.le_refl _) _⟩
theorem Yhv (z:Int) (w:World) :
  Calls Tryz.prog 168 #[.int .i64 z] w fun e w'=>e=.returned (.agg #[.int .i64 2,.int .i64 z,.string ⟨#[]⟩,.slice none 0 0,.slice none 0 0])∧Below w.heap.size w w':=by
 go_enter Tryz.func168,Tryz.ntmps168
 go_wp2_with fail
 exact V7 rfl rfl rfl (heap_alloc_new _ _) ⟨rfl,(Below.refl _ _).alloc (Nat.le_refl _) _⟩
theorem Ybi (s:ByteArray) (w:World) :
  Calls Tryz.prog 169 #[.string s] w fun e w'=>e=.returned (.agg #[.int .i64 4,.int .i64 0,.string s,.slice none 0 0,.slice none 0 0])∧Below w.heap.size w w':=by
 go_enter Tryz.func169,Tryz.ntmps169
 go_wp2_with fail
 exact V7 rfl rfl rfl (heap_alloc_new _ _) ⟨rfl,(Below.refl _ _).alloc (Nat.le_refl _) _⟩
theorem Fu {w:World} {b:Nat} {z0 z1 z2 z3 z4 v0 v1 v2 v3 v4:Value} {t:TypeId} (h:w.heap[b]? = some (.cells #[z0,z1,z2,z3,z4] t (0,0))):(((((w.setCell ⟨b,0,none⟩ v0).setCell ⟨b,1,none⟩ v1).setCell ⟨b,2,none⟩ v2).setCell ⟨b,3,none⟩ v3).setCell ⟨b,4,none⟩ v4).heap[b]? = some (.cells #[v0,v1,v2,v3,v4] t (0,0)):=
 heap_setCell_same _ b 4 _ _ _ (heap_setCell_same _ b 3 _ _ _ (heap_setCell_same _ b 2 _ _ _ (heap_setCell_same _ b 1 _ _ _ (heap_setCell_same _ b 0 _ _ _ h))))
theorem gvc {w:World} {b:Nat} {z0 z1 z2 z3 z4:Value} {t:TypeId} (h:w.heap[b]? = some (.cells #[z0,z1,z2,z3,z4] t (0,0))):w.cell? ⟨b,0,none⟩=some z0∧w.cell? ⟨b,1,none⟩=some z1∧w.cell? ⟨b,2,none⟩=some z2∧w.cell? ⟨b,3,none⟩=some z3∧w.cell? ⟨b,4,none⟩=some z4∧∀ i,w.frozen? ⟨b,i,none⟩=false:=by
 refine ⟨?_,?_,?_,?_,?_,fun i=>?_⟩
 all_goals first|(simp only [World.cell?,h];rfl)|simp [World.frozen?,h]
def Ymx (w wx:World):Prop:=wx.heap[w.heap.size]? = some (.cells #[.int .i64 0,.int .i64 0,.string ⟨#[]⟩,.slice none 0 0,.slice none 0 0] 94 (0,0))∧w.heap.size < wx.heap.size∧Below w.heap.size w wx
theorem Ymx.alloc {w wx:World} (h:Ymx w wx) (o:Obj):Ymx w (wx.alloc o):=
 ⟨(Below.heap_alloc _ _ _ h.2.1).trans h.1,by have:=h.2.1;simp;omega,h.2.2.alloc (Nat.le_of_lt h.2.1) o⟩
def byt (l:List UInt8) (k:Nat):Int:=((l.getD k 0).toNat:Int)
def Ju (b:Int):Bool:=decide (128≤b∧b≤191)
def Vw:Nat→Int|0=>0|1=>192|2=>224|_=>240
def Ynu:Nat→Int|0=>128|1=>224|2=>240|_=>248
def Lj:Nat→Int|0=>0|1=>128|2=>2048|_=>65536
def Ai:Nat→Int|0=>128|1=>32|2=>16|_=>8
def acc (l:List UInt8) (c:Int):Nat→Int
 | 0=>c
 | 1=>c
 | k+2=>acc l c (k+1)*64+(byt l (k+1) - 128)
def J3 (l:List UInt8):Nat→Bool
 | 0=>true
 | 1=>true
 | k+2=>J3 l (k+1) && Ju (byt l (k+1))
def Xv (k:Nat) (a:Int):Prop:=Vw k≤a∧a < Vw k+Ai k
instance (k:Nat) (a:Int):Decidable (Xv k a):=by unfold Xv;infer_instance
def Qb (k:Nat) (c:Int):Prop:=Lj k≤c∧c≤1114111∧X6 c=false
instance (k:Nat) (c:Int):Decidable (Qb k c):=by unfold Qb;infer_instance
def Ou (k:Nat) (l:List UInt8):Option (Int × Int):=
 if k < l.length∧Xv k (byt l 0)∧J3 l (k+1)=true∧Qb k (acc l (byt l 0 - Vw k) (k+1)) then some (acc l (byt l 0 - Vw k) (k+1),(k:Int)+1) else none
def dec (l:List UInt8):Int × Int:=
 match Ou 0 l with
 | some p=>p
 | none=>match Ou 1 l with
   | some p=>p
   | none=>match Ou 2 l with
     | some p=>p
     | none=>match Ou 3 l with
       | some p=>p
       | none=>(0,0)
def D7 (l:List UInt8) (k:Nat):Prop:=∀ j,j < k→Ou j l=none
theorem Jd {l:List UInt8} {k:Nat} (h:D7 l k) (hk:Ou k l=none):D7 l (k+1):=fun j hj=>by
 rcases Nat.lt_or_ge j k with h'|h'
 · exact h j h'
 · obtain rfl:j=k:=by omega
   exact hk
theorem Di {l:List UInt8} (h:D7 l 4):dec l=(0,0):=by
 simp [dec,h 0 (by omega),h 1 (by omega),h 2 (by omega),h 3 (by omega)]
theorem Et {l:List UInt8} {k:Nat} {p:Int × Int} (hk:k < 4) (h:D7 l k) (hp:Ou k l=some p):dec l=p:=by
 match k,hk with
 | 0,_=>simp [dec,hp]
 | 1,_=>simp [dec,h 0 (by omega),hp]
 | 2,_=>simp [dec,h 0 (by omega),h 1 (by omega),hp]
 | 3,_=>simp [dec,h 0 (by omega),h 1 (by omega),h 2 (by omega),hp]
theorem Lp (l:List UInt8) (k:Nat):0≤byt l k∧byt l k < 256:=by
 have:=(l.getD k 0).toNat_lt;unfold byt;omega
theorem J2 (s:ByteArray) (i k:Nat) (h:i+k < s.size):(s[i+k].toNat:Int)=byt (s.data.toList.drop i) k:=by
 unfold byt;have hl:s.data.toList.length=s.size:=Array.length_toList;rw [List.getD_eq_getElem?_getD,List.getElem?_drop,List.getElem?_eq_getElem (by omega)]
 rfl
theorem Yph (l:List UInt8) (c:Int) (h0:0≤c) (h1:c < 128):∀ k,J3 l k=true→0≤acc l c k∧acc l c k < 128*64 ^ (k - 1):=by
 intro k
 induction k with
 | zero=>intro _;exact ⟨h0,by simpa [acc] using h1⟩
 | succ k ih =>
   cases k with
   | zero=>intro _;exact ⟨h0,by simpa [acc] using h1⟩
   | succ k =>
     intro h;simp only [J3,Bool.and_eq_true] at h;obtain ⟨a,b⟩:=ih h.1;have hc:=h.2;simp only [Ju,decide_eq_true_eq] at hc;simp only [acc];refine ⟨by omega,?_⟩;rw [show k+1+1 - 1=(k+1 - 1)+1 from by omega,Int.pow_succ];omega
theorem Eh {l:List UInt8} {k:Nat} (h : ¬ Xv k (byt l 0)):Ou k l=none:=by
 unfold Ou;rw [if_neg (fun x=>h x.2.1)]
theorem Ex {l:List UInt8} {k:Nat} (h : ¬ k < l.length):Ou k l=none:=by
 unfold Ou;rw [if_neg (fun x=>h x.1)]
theorem Fa {l:List UInt8} {k:Nat} (h : ¬ Qb k (acc l (byt l 0 - Vw k) (k+1))):Ou k l=none:=by
 unfold Ou;rw [if_neg (fun x=>h x.2.2.2)]
theorem Zjr {l:List UInt8} : ∀ (k j:Nat),j≤k→J3 l k=true→J3 l j=true:=by
 intro k
 induction k with
 | zero => intro j hj h;obtain rfl:j=0:=by omega
           exact h
 | succ k ih =>
   intro j hj h;rcases Nat.lt_or_ge j (k+1) with h'|h'
   · refine ih j (by omega) ?_
     cases k with
     | zero=>rfl
     | succ k=>simp only [J3,Bool.and_eq_true] at h;exact h.1
   · obtain rfl:j=k+1:=by omega
     exact h
theorem U6 {l:List UInt8} {k j:Nat} (h0:1≤j) (hj:j≤k) (h : ¬ Ju (byt l j)=true):Ou k l=none:=by
 unfold Ou;rw [if_neg (fun x=>h ?_)];have:=Zjr (k+1) (j+1) (by omega) x.2.2.1
 match j,h0 with
 | j+1,_=>simp only [J3,Bool.and_eq_true] at this;exact this.2
theorem Zv2 {l:List UInt8} {k:Nat} (h1:k < l.length) (h2:Xv k (byt l 0)) (h3:J3 l (k+1)=true) (h4:Qb k (acc l (byt l 0 - Vw k) (k+1))) :
 Ou k l=some (acc l (byt l 0 - Vw k) (k+1),(k:Int)+1):=by unfold Ou;rw [if_pos ⟨h1,h2,h3,h4⟩]
theorem Zkj {k:Nat} {a:Int} (h:Xv k a):0≤a - Vw k∧a - Vw k < 128:=by
 unfold Xv at h
 match k,h with
 | 0,h=>simp only [Vw,Ai] at *;omega
 | 1,h=>simp only [Vw,Ai] at *;omega
 | 2,h=>simp only [Vw,Ai] at *;omega
 | k+3,h=>simp only [Vw,Ai] at *;omega
theorem L1 {l:List UInt8} {j:Nat} (h0:1≤j) (h:J3 l j=true) (hc:Ju (byt l j)=true):J3 l (j+1)=true:=by
 match j,h0 with
 | j+1,_=>simp [J3,h,hc]
theorem Dt {l:List UInt8} {c:Int} {j:Nat} (h0:1≤j):acc l c (j+1)=acc l c j*64+(byt l j - 128):=by
 match j,h0 with
 | j+1,_=>rfl
theorem Ed {l:List UInt8} {c:Int} {j:Nat} (h0:0≤c) (h1:c < 128) (hj:j≤4) (h:J3 l j=true):0≤acc l c j∧acc l c j < 33554433:=by
 have hx:∀ (k:Nat),k≤3→(128:Int)*64 ^ k≤33554432:=by
  intro k hk
  match k,hk with
  | 0,_=>decide
  | 1,_=>decide
  | 2,_=>decide
  | 3,_=>decide
 have hb:0≤acc l c j∧acc l c j < 128*64 ^ (j - 1):=Yph l c h0 h1 j h;have:=hx (j - 1) (by omega);omega
theorem Zqd:∀ k:Fin 4,∀ a:Fin 256,(bits .and .i64 ((a.val:Nat):Int) (Ynu k.val)=Vw k.val ↔ Xv k.val ((a.val:Nat):Int))∧(Xv k.val ((a.val:Nat):Int)→bits .andNot .i64 ((a.val:Nat):Int) (Ynu k.val)=((a.val:Nat):Int) - Vw k.val):=by decide +kernel
theorem Tb:∀ a:Fin 256,(bits .and .i64 ((a.val:Nat):Int) 192=128 ↔ Ju ((a.val:Nat):Int)=true)∧(Ju ((a.val:Nat):Int)=true→bits .and .i64 ((a.val:Nat):Int) 63=((a.val:Nat):Int) - 128):=by decide +kernel
theorem Yiu {k:Nat} (hk:k < 4) {a:Int} (h0:0≤a) (h1:a < 256):(bits .and .i64 a (Ynu k)=Vw k ↔ Xv k a)∧(Xv k a→bits .andNot .i64 a (Ynu k)=a - Vw k):=by
 obtain ⟨n,rfl⟩:=Int.eq_ofNat_of_zero_le h0;exact Zqd ⟨k,hk⟩ ⟨n,by omega⟩
theorem Dk {a:Int} (h0:0≤a) (h1:a < 256):(bits .and .i64 a 192=128 ↔ Ju a=true)∧(Ju a=true→bits .and .i64 a 63=a - 128):=by
 obtain ⟨n,rfl⟩:=Int.eq_ofNat_of_zero_le h0;exact Tb ⟨n,by omega⟩
theorem Fc (a:Nat) (ha:a < 9223372036854775808):(BitVec.ofInt 64 (a:Int)).toNat=a:=by
 rw [BitVec.ofInt_natCast,BitVec.toNat_ofNat];exact Nat.mod_eq_of_lt (by omega)
theorem Zv1 {c d:Int} (h0:0≤c) (h1:c < 134217728) (h2:0≤d) (h3:d < 64):bits .or .i64 (c*64) d=c*64+d:=by
 obtain ⟨a,rfl⟩:=Int.eq_ofNat_of_zero_le h0;obtain ⟨b,rfl⟩:=Int.eq_ofNat_of_zero_le h2;have e:((a:Int)*64)=((a*64:Nat):Int):=by omega
 rw [e]
 show IntKind.i64.wrap ((BitVec.ofInt 64 ((a*64:Nat):Int) ||| BitVec.ofInt 64 (b:Int)).toNat:Int)=_;have h:=Nat.shiftLeft_add_eq_or_of_lt (b:=b) (i:=6) (by omega) a;rw [BitVec.toNat_or,Fc _ (by omega),Fc b (by omega),show a*64=a <<< 6 from by rw [Nat.shiftLeft_eq],← h,IntKind.wrap_i64,Nat.shiftLeft_eq];omega
theorem Yf1 {k:Nat} {l:List UInt8} {p:Int × Int} (hk:k < 4) (h:Ou k l=some p):p.2=(k:Int)+1∧k+1≤l.length∧0≤p.1∧Qb k p.1:=by
 unfold Ou at h
 split at h
 · rename_i hc
   obtain ⟨h1,h2,h3,h4⟩:=hc;injection h with h
   subst h;have hls:=Zkj h2;exact ⟨rfl,by omega,(Ed hls.1 hls.2 (by omega) h3).1,h4⟩
 · cases h
theorem Tp (l : List UInt8) : (D7 l 4 ∧ dec l=(0,0))∨∃ k,k < 4∧D7 l k∧Ou k l=some (dec l):=by
 cases h0:Ou 0 l with
 | some p=>exact .inr ⟨0,by omega,fun j hj=>by omega,by rw [Et (k:=0) (by omega) (fun j hj=>by omega) h0,h0]⟩
 | none =>
   have n1 : D7 l 1 := fun j hj => by obtain rfl:j=0:=by omega
                                      exact h0
   cases h1:Ou 1 l with
   | some p=>exact .inr ⟨1,by omega,n1,by rw [Et (k:=1) (by omega) n1 h1,h1]⟩
   | none =>
     have n2:=Jd n1 h1
     cases h2:Ou 2 l with
     | some p=>exact .inr ⟨2,by omega,n2,by rw [Et (k:=2) (by omega) n2 h2,h2]⟩
     | none =>
       have n3:=Jd n2 h2
       cases h3:Ou 3 l with
       | some p=>exact .inr ⟨3,by omega,n3,by rw [Et (k:=3) (by omega) n3 h3,h3]⟩
       | none=>exact .inl ⟨Jd n3 h3,Di (Jd n3 h3)⟩
theorem Mv (l:List UInt8):0≤(dec l).2∧(dec l).2≤4∧(dec l).2≤l.length∧0≤(dec l).1∧(dec l).1≤1114111∧X6 (dec l).1=false:=by
 rcases Tp l with ⟨_,h⟩|⟨k,hk,_,h⟩
 · rw [h];simp [X6]
 · obtain ⟨h1,h2,h3,h4⟩:=Yf1 hk h
   unfold Qb at h4;exact ⟨by omega,by omega,by omega,h3,h4.2.1,h4.2.2⟩
def Og:Nat→List UInt8→Option (List Int)
 | _,[]=>some []
 | 0,_ :: _=>none
 | n+1,b :: t=>if (dec (b :: t)).2=0 then none else (Og n ((b :: t).drop (dec (b :: t)).2.toNat)).map ((dec (b :: t)).1 :: ·)
def Jc (l:List UInt8):Option (List Int):=Og l.length l
theorem Rt:∀ (n m:Nat) (l:List UInt8),l.length≤n→l.length≤m→Og n l=Og m l:=by
 intro n
 induction n with
 | zero =>
   intro m l h _;have:l=[]:=List.eq_nil_of_length_eq_zero (by omega);subst this
   cases m<;>rfl
 | succ n ih =>
   intro m l hn hm
   cases l with
   | nil=>cases m<;>rfl
   | cons b t =>
     cases m with
     | zero=>simp at hm
     | succ m =>
       have hb:=Mv (b :: t);simp only [Og]
       split
       · rfl
       · rename_i h0
         rw [ih m _ (by simp only [List.length_drop,List.length_cons] at *;omega) (by simp only [List.length_drop,List.length_cons] at *;omega)]
theorem Fe:Jc []=some []:=rfl
theorem Lo {l:List UInt8} (h:l ≠ []) (h0:(dec l).2=0):Jc l=none:=by
 cases l with
 | nil=>exact absurd rfl h
 | cons b t=>simp only [Jc,List.length_cons,Og,if_pos h0]
theorem Ux {l:List UInt8} (h:l ≠ []) (h0:(dec l).2 ≠ 0):Jc l=(Jc (l.drop (dec l).2.toNat)).map ((dec l).1 :: ·):=by
 cases l with
 | nil=>exact absurd rfl h
 | cons b t =>
   have hb:=Mv (b :: t)
   show Og (t.length+1) (b :: t)=_;simp only [Og,if_neg h0];rw [Rt t.length ((b :: t).drop (dec (b :: t)).2.toNat).length _ (by simp only [List.length_drop,List.length_cons] at *;omega) (Nat.le_refl _)]
   rfl
def Ix (p:Int→Bool) (l:List UInt8):Bool:=
 match Jc l with
 | some cs=>cs.all p
 | none=>false
theorem Ycb {p:Int→Bool} {l:List UInt8} (h:l ≠ []) (h0:(dec l).2=0):Ix p l=false:=by simp [Ix,Lo h h0]
theorem Wl {p:Int→Bool} {l:List UInt8} (h:l ≠ []) (h0:(dec l).2 ≠ 0):Ix p l=(p (dec l).1 && Ix p (l.drop (dec l).2.toNat)):=by
 unfold Ix;rw [Ux h h0]
 cases Jc (l.drop (dec l).2.toNat) with
 | none=>simp
 | some cs=>simp
def Yd5 (c:Int):Bool:=decide (c=9∨c=10∨c=13∨(32≤c∧c < 65536))
def Zm (l:List UInt8):Bool:=Ix (fun _=>true) l
def X7 (l:List UInt8):Bool:=Ix Yd5 l
theorem J9 (l:List UInt8):Zm l=(Jc l).isSome:=by
 unfold Zm Ix
 cases Jc l<;>simp
def Xq:List Int→Option (List Int)
 | []=>some []
 | [c]=>if c < 0∨65536≤c∨X6 c=true then none else some [c]
 | c :: d :: t=>if c < 0∨65536≤c then none else if X6 c=true then (if Ck c d=true then (Xq t).map ((65536+1024*(c - 55296)+d - 56320) :: ·) else none) else (Xq (d :: t)).map (c :: ·)
def Yh (cs:List Int):List UInt8:=cs.flatMap Lib.encodeRune
def Vo (l:List Int):Option (List UInt8):=(Xq l).map Yh
def Gd (c:Int):List Int:=if c < 65536 then [c] else [55296+(c - 65536) / 1024,56320+(c - 65536) % 1024]
def Ac (cs:List Int):List Int:=cs.flatMap Gd
def okB (c:Int):Bool:=decide (0≤c∧c≤1114111∧X6 c=false)
theorem Po {c:Int} {t:List Int} (h0 : ¬ c < 0) (h1 : ¬ 65536≤c) (h2:X6 c=false):Xq (c :: t)=(Xq t).map (c :: ·):=by
 cases t with
 | nil=>simp [Xq,h0,h1,h2]
 | cons d t=>simp [Xq,h0,h1,h2]
theorem Pj {c d:Int} {t:List Int} (h0 : ¬ c < 0) (h1 : ¬ 65536≤c) (h2:X6 c=true) (h3:Ck c d=true):Xq (c :: d :: t)=(Xq t).map ((65536+1024*(c - 55296)+d - 56320) :: ·):=by
 simp [Xq,h0,h1,h2,h3]
theorem U7 {c:Int} {t:List Int} (h:c < 0∨65536≤c):Xq (c :: t)=none:=by
 cases t with
 | nil=>simp only [Xq];rw [if_pos (by rcases h with h|h;exact .inl h;exact .inr (.inl h))]
 | cons d t=>simp only [Xq];rw [if_pos h]
theorem Ej {c:Int} (h:X6 c=true):Xq [c]=none:=by
 simp [Xq,h]
theorem F9 {c d:Int} {t:List Int} (h2:X6 c=true) (h3:Ck c d=false):Xq (c :: d :: t)=none:=by
 simp [Xq,h2,h3]
theorem Lg : ∀ (n:Nat) (l cs:List Int),l.length≤n→Xq l=some cs→Ac cs=l∧cs.all okB=true:=by
 intro n
 induction n with
 | zero =>
   intro l cs hl h;have:l=[]:=List.eq_nil_of_length_eq_zero (by omega);subst this;simp only [Xq,Option.some.injEq] at h;subst h;exact ⟨rfl,rfl⟩
 | succ n ih =>
   intro l cs hl h
   cases l with
   | nil =>
     simp only [Xq,Option.some.injEq] at h;subst h;exact ⟨rfl,rfl⟩
   | cons c t =>
     by_cases hr:c < 0∨65536≤c
     · rw [U7 hr] at h;cases h
     · cases hh : X6 c
       · rw [Po (by omega) (by omega) hh] at h
         obtain ⟨cs',h',rfl⟩:=Option.map_eq_some_iff.1 h;obtain ⟨a,b⟩:=ih t cs' (by simp at hl;omega) h';refine ⟨?_,?_⟩
         · have:Gd c=[c]:=by unfold Gd;rw [if_pos (by omega)]
           show Gd c++Ac cs'=_;rw [this,a];rfl
         · rw [List.all_cons,b,Bool.and_true]
           simp [okB,hh];omega
       · cases t with
         | nil=>rw [Ej hh] at h;cases h
         | cons d t =>
           cases hp:Ck c d
           · rw [F9 hh hp] at h;cases h
           · rw [Pj (by omega) (by omega) hh hp] at h
             obtain ⟨cs',h',rfl⟩:=Option.map_eq_some_iff.1 h;obtain ⟨a,b⟩:=ih t cs' (by simp at hl;omega) h';have hp':55296≤c∧c < 56320∧56320≤d∧d≤57343:=by simpa [Ck] using hp
             refine ⟨?_,?_⟩
             · have:Gd (65536+1024*(c - 55296)+d - 56320)=[c,d]:=by
                unfold Gd;rw [if_neg (by omega)]
                congr 1
                · omega
                · congr 1;omega
               show Gd _++Ac cs'=_;rw [this,a];rfl
             · rw [List.all_cons,b,Bool.and_true]
               simp [okB,X6];omega
theorem Up (b:UInt8) (t:List UInt8):byt (b :: t) 0=(b.toNat:Int):=rfl
theorem Fr (b:UInt8) (t:List UInt8) (k:Nat):byt (b :: t) (k+1)=byt t k:=rfl
theorem X2 {x:Int} (h0:0≤x) (h1:x < 256):((x.toNat.toUInt8).toNat:Int)=x:=by
 obtain ⟨n,rfl⟩:=Int.eq_ofNat_of_zero_le h0;simp [Nat.toUInt8,UInt8.toNat_ofNat']
 omega
theorem Tj {j k:Nat} {a:Int} (hj:j < 4) (hk:k < 4) (h1:Xv j a) (h2:Xv k a):j=k:=by
 unfold Xv at h1 h2
 match j,hj,k,hk with
 | 0,_,0,_|1,_,1,_|2,_,2,_|3,_,3,_=>rfl
 | 0,_,1,_|0,_,2,_|0,_,3,_|1,_,0,_|1,_,2,_|1,_,3,_|2,_,0,_|2,_,1,_|2,_,3,_|3,_,0,_|3,_,1,_|3,_,2,_ =>
   simp only [Vw,Ai] at h1 h2;omega
theorem Cw {l:List UInt8} {k:Nat} {c:Int} (hk:k < 4) (h1:k < l.length) (h2:Xv k (byt l 0)) (h3:J3 l (k+1)=true) (ha:acc l (byt l 0 - Vw k) (k+1)=c) (h4:Qb k c):dec l=(c,(k:Int)+1):=by
 subst ha;exact Et hk (fun j hj=>Eh (fun h=>by have:=Tj (by omega) hk h h2;omega)) (Zv2 h1 h2 h3 h4)
theorem Fb {b:Int} (h0:128≤b) (h1:b≤191):Ju b=true:=by simp [Ju,h0,h1]
theorem Zvr {c:Int} (h:okB c=true) (t:List UInt8):dec (Lib.encodeRune c++t)=(c,((Lib.encodeRune c).length:Int)):=by
 have hok:0≤c∧c≤1114111∧X6 c=false:=by simpa [okB] using h
 obtain ⟨h0,h1,h2⟩:=hok;have hh : ¬ (55296≤c∧c≤57343):=by simpa [X6] using h2
 by_cases a1:c≤127
 · have e:Lib.encodeRune c=[c.toNat.toUInt8]:=by simp [Lib.encodeRune,Lib.encodeRuneZ_one h0 a1]
   rw [e];have b0:byt ([c.toNat.toUInt8]++t) 0=c:=X2 h0 (by omega);have hl:1≤([c.toNat.toUInt8]++t).length:=by simp
   generalize [c.toNat.toUInt8]++t=l at *;exact Cw (k:=0) (by omega) (by omega) (by rw [b0];simp only [Xv,Vw,Ai];omega) rfl (by rw [b0];simp [acc,Vw]) ⟨h0,h1,h2⟩
 by_cases a2:c≤2047
 · have e:Lib.encodeRune c=[(192+c / 64).toNat.toUInt8,(128+c % 64).toNat.toUInt8]:=by simp [Lib.encodeRune,Lib.encodeRuneZ_two (by omega) a2]
   rw [e];generalize hx:(192+c / 64).toNat.toUInt8=x;generalize hy:(128+c % 64).toNat.toUInt8=y;have b0:byt ([x,y]++t) 0=192+c / 64:=by rw [← hx];exact X2 (by omega) (by omega)
   have b1:byt ([x,y]++t) 1=128+c % 64:=by rw [← hy];exact X2 (by omega) (by omega)
   have hl:2≤([x,y]++t).length:=by simp
   generalize [x,y]++t=l at *;refine Cw (k:=1) (by omega) (by omega) (by rw [b0];simp only [Xv,Vw,Ai];omega) ?_ ?_ ⟨by simp only [Lj];omega,h1,h2⟩
   · simp only [J3,b1,Bool.true_and];exact Fb (by omega) (by omega)
   · simp only [acc,b0,b1,Vw];omega
 by_cases a3:c≤65535
 · have e:Lib.encodeRune c=[(224+c / 4096).toNat.toUInt8,(128+c / 64 % 64).toNat.toUInt8,(128+c % 64).toNat.toUInt8]:=by simp [Lib.encodeRune,Lib.encodeRuneZ_three (show (2048≤c∧c < 55296)∨(57343 < c∧c≤65535) by omega)]
   rw [e];generalize hx:(224+c / 4096).toNat.toUInt8=x;generalize hy:(128+c / 64 % 64).toNat.toUInt8=y;generalize hz:(128+c % 64).toNat.toUInt8=z;have b0:byt ([x,y,z]++t) 0=224+c / 4096:=by rw [← hx];exact X2 (by omega) (by omega)
   have b1:byt ([x,y,z]++t) 1=128+c / 64 % 64:=by rw [← hy];exact X2 (by omega) (by omega)
   have b2:byt ([x,y,z]++t) 2=128+c % 64:=by rw [← hz];exact X2 (by omega) (by omega)
   have hl:3≤([x,y,z]++t).length:=by simp
   generalize [x,y,z]++t=l at *;refine Cw (k:=2) (by omega) (by omega) (by rw [b0];simp only [Xv,Vw,Ai];omega) ?_ ?_ ⟨by simp only [Lj];omega,h1,h2⟩
   · simp only [J3,b1,b2,Bool.true_and];rw [Fb (by omega) (by omega),Fb (by omega) (by omega)];rfl
   · simp only [acc,b0,b1,b2,Vw];omega
 · have e:Lib.encodeRune c=[(240+c / 262144).toNat.toUInt8,(128+c / 4096 % 64).toNat.toUInt8,(128+c / 64 % 64).toNat.toUInt8,(128+c % 64).toNat.toUInt8]:=by simp [Lib.encodeRune,Lib.encodeRuneZ_four (show 65536≤c by omega) h1]
   rw [e];generalize hx:(240+c / 262144).toNat.toUInt8=x;generalize hy:(128+c / 4096 % 64).toNat.toUInt8=y;generalize hz:(128+c / 64 % 64).toNat.toUInt8=z;generalize hu:(128+c % 64).toNat.toUInt8=u;have b0:byt ([x,y,z,u]++t) 0=240+c / 262144:=by rw [← hx];exact X2 (by omega) (by omega)
   have b1:byt ([x,y,z,u]++t) 1=128+c / 4096 % 64:=by rw [← hy];exact X2 (by omega) (by omega)
   have b2:byt ([x,y,z,u]++t) 2=128+c / 64 % 64:=by rw [← hz];exact X2 (by omega) (by omega)
   have b3:byt ([x,y,z,u]++t) 3=128+c % 64:=by rw [← hu];exact X2 (by omega) (by omega)
   have hl:4≤([x,y,z,u]++t).length:=by simp
   generalize [x,y,z,u]++t=l at *;refine Cw (k:=3) (by omega) (by omega) (by rw [b0];simp only [Xv,Vw,Ai];omega) ?_ ?_ ⟨by simp only [Lj];omega,h1,h2⟩
   · simp only [J3,b1,b2,b3,Bool.true_and];rw [Fb (by omega) (by omega),Fb (by omega) (by omega),Fb (by omega) (by omega)];rfl
   · simp only [acc,b0,b1,b2,b3,Vw];omega
theorem Ne {b:UInt8} {x:Int} (h:(b.toNat:Int)=x):x.toNat.toUInt8=b:=by
 subst h;simp
theorem Pe {l:List UInt8} (h:(dec l).2 ≠ 0):Lib.encodeRune (dec l).1=l.take (dec l).2.toNat:=by
 rcases Tp l with ⟨_,h'⟩|⟨k,hk,_,h'⟩
 · rw [h'] at h;exact absurd rfl h
 · obtain ⟨e2,hlen,h0,hf⟩:=Yf1 hk h'
   have hp:=h';unfold Ou at hp
   split at hp
   · rename_i hc
     obtain ⟨_,hL,hC,_⟩:=hc;injection hp with hp
     have e1:(dec l).1=acc l (byt l 0 - Vw k) (k+1):=by rw [← hp]
     rw [e2,show ((k:Int)+1).toNat=k+1 from by omega];unfold Qb at hf;generalize (dec l).1=c at *;clear h h' hp e2;have hh : ¬ (55296≤c∧c≤57343):=by simpa [X6] using hf.2.2
     have hcb:∀ b:Int,Ju b=true→128≤b∧b≤191:=fun b hb=>by simpa [Ju] using hb
     match k,hk with
     | 0,_ =>
       match l,hlen with
       | x :: t,_ =>
         simp only [acc,Up,Vw,Xv,Ai] at e1 hL;rw [Lib.encodeRune,Lib.encodeRuneZ_one h0 (by omega)];simp only [List.map,List.take_succ_cons,List.take_zero];rw [Ne (b:=x) (by omega)]
     | 1,_ =>
       match l,hlen with
       | x :: y :: t,_ =>
         simp only [acc,Up,Fr,Vw,Xv,Ai,J3,Bool.true_and] at e1 hL hC;have c1:=hcb _ hC;simp only [Lj] at hf;rw [Lib.encodeRune,Lib.encodeRuneZ_two (by omega) (by omega)];simp only [List.map,List.take_succ_cons,List.take_zero];rw [Ne (b:=x) (by omega),Ne (b:=y) (by omega)]
     | 2,_ =>
       match l,hlen with
       | x :: y :: z :: t,_ =>
         simp only [acc,Up,Fr,Vw,Xv,Ai,J3,Bool.true_and,Bool.and_eq_true] at e1 hL hC;have c1:=hcb _ hC.1;have c2:=hcb _ hC.2;simp only [Lj] at hf;rw [Lib.encodeRune,Lib.encodeRuneZ_three (by omega)];simp only [List.map,List.take_succ_cons,List.take_zero];rw [Ne (b:=x) (by omega),Ne (b:=y) (by omega),Ne (b:=z) (by omega)]
     | 3,_ =>
       match l,hlen with
       | x :: y :: z :: u :: t,_ =>
         simp only [acc,Up,Fr,Vw,Xv,Ai,J3,Bool.true_and,Bool.and_eq_true] at e1 hL hC;have c1:=hcb _ hC.1.1;have c2:=hcb _ hC.1.2;have c3:=hcb _ hC.2;simp only [Lj] at hf;rw [Lib.encodeRune,Lib.encodeRuneZ_four (by omega) (by omega)];simp only [List.map,List.take_succ_cons,List.take_zero];rw [Ne (b:=x) (by omega),Ne (b:=y) (by omega),Ne (b:=z) (by omega),Ne (b:=u) (by omega)]
   · cases hp
theorem Yek (c:Int):Lib.encodeRune c ≠ []:=by
 have:=(Lib.encodeRuneZ_length c).1;intro e;have h:=congrArg List.length e;simp [Lib.encodeRune] at h
 rw [h] at this;simp at this
theorem Bn:∀ (cs:List Int) (t:List UInt8),cs.all okB=true→Jc (Yh cs++t)=(Jc t).map (cs ++ ·):=by
 intro cs
 induction cs with
 | nil=>intro t _;show Jc t=_;cases Jc t<;>rfl
 | cons c cs ih =>
   intro t h;rw [List.all_cons,Bool.and_eq_true] at h;have e:Yh (c :: cs)++t=Lib.encodeRune c++(Yh cs++t):=by simp [Yh]
   have hd:=Zvr h.1 (Yh cs++t);have hne:=Yek c;have hpos:0 < (Lib.encodeRune c).length:=List.length_pos_iff.2 hne;rw [e,Ux (by simp [hne]) (by rw [hd];show ((Lib.encodeRune c).length:Int) ≠ 0;omega),hd]
   show Option.map _ (Jc (List.drop (((Lib.encodeRune c).length:Int)).toNat _))=_;rw [show (((Lib.encodeRune c).length:Int)).toNat=(Lib.encodeRune c).length from by omega,List.drop_left,ih t h.2]
   cases Jc t<;>rfl
theorem Gq:∀ (n:Nat) (l:List UInt8) (cs:List Int),l.length≤n→Jc l=some cs→Yh cs=l∧cs.all okB=true:=by
 intro n
 induction n with
 | zero =>
   intro l cs hl h;have:l=[]:=List.eq_nil_of_length_eq_zero (by omega);subst this;rw [Fe,Option.some.injEq] at h;subst h;exact ⟨rfl,rfl⟩
 | succ n ih =>
   intro l cs hl h
   by_cases hn:l=[]
   · subst hn
     rw [Fe,Option.some.injEq] at h;subst h;exact ⟨rfl,rfl⟩
   · by_cases h0:(dec l).2=0
     · rw [Lo hn h0] at h;cases h
     · rw [Ux hn h0] at h
       obtain ⟨cs',h',rfl⟩:=Option.map_eq_some_iff.1 h;have hb:=Mv l;obtain ⟨a,b⟩:=ih _ cs' (by rw [List.length_drop];omega) h';refine ⟨?_,?_⟩
       · show Lib.encodeRune (dec l).1++Yh cs'=l
         rw [Pe h0,a,List.take_append_drop]
       · rw [List.all_cons,b,Bool.and_true]
         simp [okB,hb.2.2.2.2.2];omega
theorem Zq7 {l:List UInt8} {cs:List Int} (h:Jc l=some cs) (t:List UInt8):Jc (l++t)=(Jc t).map (cs ++ ·):=by
 obtain ⟨a,b⟩:=Gq _ l cs (Nat.le_refl _) h
 conv=>lhs;rw [← a]
 exact Bn cs t b
end Go.Proofs.YtkmloefbkgcbkaaGreatDoor
