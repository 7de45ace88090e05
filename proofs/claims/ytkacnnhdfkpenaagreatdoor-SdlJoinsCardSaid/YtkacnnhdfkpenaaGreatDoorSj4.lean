/- The walks of seineref1.Get, Int and Text. -/
import Derived.Test.YtkacnnhdfkpenaaGreatDoorSj3
import Derived.Laws.Rows
import Derived.Laws.BitsAllLaws
import Derived.Laws.BitsLemmas
import Derived.Laws.Entries
import Derived.Lib.RuneBytes
set_option maxRecDepth 10000
namespace Go.Proofs.YtkacnnhdfkpenaaGreatDoor
open Go.RowKit
def VT.zero:VT:=.mk 0 0 ⟨#[]⟩ .nil .nil
def VM.drop:VM→Nat→VM
 | m,0=>m
 | .nil,_+1=>.nil
 | .cons _ _ t,j+1=>t.drop j
theorem ret_v1 {R:Ending→World→Prop} {fn:Func} {a:Act} {W:World} {c0 c1 c2 c3 c4:Value} {p b:Nat} (hf:fn.results=#[.cell p 78]) (h2:a.tmps.getD p undef=.pointer (some ⟨b,0,none⟩)) (hd:a.defers=[])
  (hc:W.heap[b]? = some (.cells #[c0,c1,c2,c3,c4] 78 (0,0))) (hR:R (.returned (.agg #[c0,c1,c2,c3,c4])) W):bodyPost Tryz.prog fn R .ret a W:=by
 have hl:(loadVar 78 ⟨b,0,none⟩).run Tryz.prog W=.ok (.agg #[c0,c1,c2,c3,c4]) W:=
  run_loadVar_row W b 78 78 #[c0,c1,c2,c3,c4] (0,0) _ hc Tryz.underlying78 rfl (by kernel_rfl)
 refine bodyPost_ret ?_ hd hR
 have h2':a.tmps[p]?.getD undef=.pointer (some ⟨b,0,none⟩):=by rw [← h2];simp
 simp [results,hf,h2',asAddr,hl]
theorem pint_any (z:Int) (w:World) :
  Calls Tryz.prog 346 #[.int .i64 z] w fun e w'=>e=.returned (.agg #[.int .i64 2,.int .i64 z,.string ⟨#[]⟩,.slice none 0 0,.slice none 0 0])∧Below w.heap.size w w':=by
 go_enter Tryz.func346,Tryz.ntmps346
 go_wp2_with fail
 exact ret_v1 rfl rfl rfl (heap_alloc_new _ _) ⟨rfl,(Below.refl _ _).alloc (Nat.le_refl _) _⟩
theorem ptext_any (s:ByteArray) (w:World) :
  Calls Tryz.prog 347 #[.string s] w fun e w'=>e=.returned (.agg #[.int .i64 4,.int .i64 0,.string s,.slice none 0 0,.slice none 0 0])∧Below w.heap.size w w':=by
 go_enter Tryz.func347,Tryz.ntmps347
 go_wp2_with fail
 exact ret_v1 rfl rfl rfl (heap_alloc_new _ _) ⟨rfl,(Below.refl _ _).alloc (Nat.le_refl _) _⟩
theorem five_set {w:World} {b:Nat} {z0 z1 z2 z3 z4 v0 v1 v2 v3 v4:Value} {t:TypeId} (h:w.heap[b]? = some (.cells #[z0,z1,z2,z3,z4] t (0,0))):(((((w.setCell ⟨b,0,none⟩ v0).setCell ⟨b,1,none⟩ v1).setCell ⟨b,2,none⟩ v2).setCell ⟨b,3,none⟩ v3).setCell ⟨b,4,none⟩ v4).heap[b]? = some (.cells #[v0,v1,v2,v3,v4] t (0,0)):=
 heap_setCell_same _ b 4 _ _ _ (heap_setCell_same _ b 3 _ _ _ (heap_setCell_same _ b 2 _ _ _ (heap_setCell_same _ b 1 _ _ _ (heap_setCell_same _ b 0 _ _ _ h))))
theorem gvc {w:World} {b:Nat} {z0 z1 z2 z3 z4:Value} {t:TypeId} (h:w.heap[b]? = some (.cells #[z0,z1,z2,z3,z4] t (0,0))):w.cell? ⟨b,0,none⟩=some z0∧w.cell? ⟨b,1,none⟩=some z1∧w.cell? ⟨b,2,none⟩=some z2∧w.cell? ⟨b,3,none⟩=some z3∧w.cell? ⟨b,4,none⟩=some z4∧∀ i,w.frozen? ⟨b,i,none⟩=false:=by
 refine ⟨?_,?_,?_,?_,?_,fun i=>?_⟩
 all_goals first|(simp only [World.cell?,h];rfl)|simp [World.frozen?,h]
def ResAt (w wx:World):Prop:=wx.heap[w.heap.size]? = some (.cells #[.int .i64 0,.int .i64 0,.string ⟨#[]⟩,.slice none 0 0,.slice none 0 0] 78 (0,0))∧w.heap.size < wx.heap.size∧Below w.heap.size w wx
theorem ResAt.alloc {w wx:World} (h:ResAt w wx) (o:Obj):ResAt w (wx.alloc o):=
 ⟨(Below.heap_alloc _ _ _ h.2.1).trans h.1,by have:=h.2.1;simp;omega,h.2.2.alloc (Nat.le_of_lt h.2.1) o⟩
def byt (l:List UInt8) (k:Nat):Int:=((l.getD k 0).toNat:Int)
def contB (b:Int):Bool:=decide (128≤b∧b≤191)
def lead:Nat→Int|0=>0|1=>192|2=>224|_=>240
def mask:Nat→Int|0=>128|1=>224|2=>240|_=>248
def least:Nat→Int|0=>0|1=>128|2=>2048|_=>65536
def wide:Nat→Int|0=>128|1=>32|2=>16|_=>8
def acc (l:List UInt8) (c:Int):Nat→Int
 | 0=>c
 | 1=>c
 | k+2=>acc l c (k+1)*64+(byt l (k+1) - 128)
def contTo (l:List UInt8):Nat→Bool
 | 0=>true
 | 1=>true
 | k+2=>contTo l (k+1) && contB (byt l (k+1))
def leads (k:Nat) (a:Int):Prop:=lead k≤a∧a < lead k+wide k
instance (k:Nat) (a:Int):Decidable (leads k a):=by unfold leads;infer_instance
def fair (k:Nat) (c:Int):Prop:=least k≤c∧c≤1114111∧halfB c=false
instance (k:Nat) (c:Int):Decidable (fair k c):=by unfold fair;infer_instance
def decK (k:Nat) (l:List UInt8):Option (Int × Int):=
 if k < l.length∧leads k (byt l 0)∧contTo l (k+1)=true∧fair k (acc l (byt l 0 - lead k) (k+1)) then some (acc l (byt l 0 - lead k) (k+1),(k:Int)+1) else none
def dec (l:List UInt8):Int × Int:=
 match decK 0 l with
 | some p=>p
 | none=>match decK 1 l with
   | some p=>p
   | none=>match decK 2 l with
     | some p=>p
     | none=>match decK 3 l with
       | some p=>p
       | none=>(0,0)
def noneTo (l:List UInt8) (k:Nat):Prop:=∀ j,j < k→decK j l=none
theorem noneTo_succ {l:List UInt8} {k:Nat} (h:noneTo l k) (hk:decK k l=none):noneTo l (k+1):=fun j hj=>by
 rcases Nat.lt_or_ge j k with h'|h'
 · exact h j h'
 · obtain rfl:j=k:=by omega
   exact hk
theorem dec_none {l:List UInt8} (h:noneTo l 4):dec l=(0,0):=by
 simp [dec,h 0 (by omega),h 1 (by omega),h 2 (by omega),h 3 (by omega)]
theorem dec_some {l:List UInt8} {k:Nat} {p:Int × Int} (hk:k < 4) (h:noneTo l k) (hp:decK k l=some p):dec l=p:=by
 match k,hk with
 | 0,_=>simp [dec,hp]
 | 1,_=>simp [dec,h 0 (by omega),hp]
 | 2,_=>simp [dec,h 0 (by omega),h 1 (by omega),hp]
 | 3,_=>simp [dec,h 0 (by omega),h 1 (by omega),h 2 (by omega),hp]
theorem byt_lt (l:List UInt8) (k:Nat):0≤byt l k∧byt l k < 256:=by
 have:=(l.getD k 0).toNat_lt
 unfold byt;omega
theorem byt_drop (s:ByteArray) (i k:Nat) (h:i+k < s.size):(s[i+k].toNat:Int)=byt (s.data.toList.drop i) k:=by
 unfold byt
 have hl:s.data.toList.length=s.size:=Array.length_toList
 rw [List.getD_eq_getElem?_getD,List.getElem?_drop,List.getElem?_eq_getElem (by omega)]
 rfl
theorem acc_bd (l:List UInt8) (c:Int) (h0:0≤c) (h1:c < 128):∀ k,contTo l k=true→0≤acc l c k∧acc l c k < 128*64 ^ (k - 1):=by
 intro k
 induction k with
 | zero=>intro _;exact ⟨h0,by simpa [acc] using h1⟩
 | succ k ih =>
   cases k with
   | zero=>intro _;exact ⟨h0,by simpa [acc] using h1⟩
   | succ k =>
     intro h
     simp only [contTo,Bool.and_eq_true] at h
     obtain ⟨a,b⟩:=ih h.1
     have hc:=h.2
     simp only [contB,decide_eq_true_eq] at hc
     simp only [acc]
     refine ⟨by omega,?_⟩
     rw [show k+1+1 - 1=(k+1 - 1)+1 from by omega,Int.pow_succ]
     omega
theorem decK_leads {l:List UInt8} {k:Nat} (h : ¬ leads k (byt l 0)):decK k l=none:=by
 unfold decK;rw [if_neg (fun x=>h x.2.1)]
theorem decK_short {l:List UInt8} {k:Nat} (h : ¬ k < l.length):decK k l=none:=by
 unfold decK;rw [if_neg (fun x=>h x.1)]
theorem decK_fair {l:List UInt8} {k:Nat} (h : ¬ fair k (acc l (byt l 0 - lead k) (k+1))):decK k l=none:=by
 unfold decK;rw [if_neg (fun x=>h x.2.2.2)]
theorem contTo_mono {l:List UInt8} : ∀ (k j:Nat),j≤k→contTo l k=true→contTo l j=true:=by
 intro k
 induction k with
 | zero => intro j hj h;obtain rfl:j=0:=by omega
           exact h
 | succ k ih =>
   intro j hj h
   rcases Nat.lt_or_ge j (k+1) with h'|h'
   · refine ih j (by omega) ?_
     cases k with
     | zero=>rfl
     | succ k=>simp only [contTo,Bool.and_eq_true] at h;exact h.1
   · obtain rfl:j=k+1:=by omega
     exact h
theorem decK_cont {l:List UInt8} {k j:Nat} (h0:1≤j) (hj:j≤k) (h : ¬ contB (byt l j)=true):decK k l=none:=by
 unfold decK;rw [if_neg (fun x=>h ?_)]
 have:=contTo_mono (k+1) (j+1) (by omega) x.2.2.1
 match j,h0 with
 | j+1,_=>simp only [contTo,Bool.and_eq_true] at this;exact this.2
theorem decK_yes {l:List UInt8} {k:Nat} (h1:k < l.length) (h2:leads k (byt l 0)) (h3:contTo l (k+1)=true) (h4:fair k (acc l (byt l 0 - lead k) (k+1))) :
 decK k l=some (acc l (byt l 0 - lead k) (k+1),(k:Int)+1):=by unfold decK;rw [if_pos ⟨h1,h2,h3,h4⟩]
theorem leads_bd {k:Nat} {a:Int} (h:leads k a):0≤a - lead k∧a - lead k < 128:=by
 unfold leads at h
 match k,h with
 | 0,h=>simp only [lead,wide] at *;omega
 | 1,h=>simp only [lead,wide] at *;omega
 | 2,h=>simp only [lead,wide] at *;omega
 | k+3,h=>simp only [lead,wide] at *;omega
theorem contTo_succ {l:List UInt8} {j:Nat} (h0:1≤j) (h:contTo l j=true) (hc:contB (byt l j)=true):contTo l (j+1)=true:=by
 match j,h0 with
 | j+1,_=>simp [contTo,h,hc]
theorem acc_succ {l:List UInt8} {c:Int} {j:Nat} (h0:1≤j):acc l c (j+1)=acc l c j*64+(byt l j - 128):=by
 match j,h0 with
 | j+1,_=>rfl
theorem acc_small {l:List UInt8} {c:Int} {j:Nat} (h0:0≤c) (h1:c < 128) (hj:j≤4) (h:contTo l j=true):0≤acc l c j∧acc l c j < 33554433:=by
 have hx:∀ (k:Nat),k≤3→(128:Int)*64 ^ k≤33554432:=by
  intro k hk
  match k,hk with
  | 0,_=>decide
  | 1,_=>decide
  | 2,_=>decide
  | 3,_=>decide
 have hb:0≤acc l c j∧acc l c j < 128*64 ^ (j - 1):=acc_bd l c h0 h1 j h
 have:=hx (j - 1) (by omega)
 omega
theorem and_mask_all:∀ k:Fin 4,∀ a:Fin 256,(bits .and .i64 ((a.val:Nat):Int) (mask k.val)=lead k.val ↔ leads k.val ((a.val:Nat):Int))∧(leads k.val ((a.val:Nat):Int)→bits .andNot .i64 ((a.val:Nat):Int) (mask k.val)=((a.val:Nat):Int) - lead k.val):=by decide +kernel
theorem and_tail_all:∀ a:Fin 256,(bits .and .i64 ((a.val:Nat):Int) 192=128 ↔ contB ((a.val:Nat):Int)=true)∧(contB ((a.val:Nat):Int)=true→bits .and .i64 ((a.val:Nat):Int) 63=((a.val:Nat):Int) - 128):=by decide +kernel
theorem and_mask {k:Nat} (hk:k < 4) {a:Int} (h0:0≤a) (h1:a < 256):(bits .and .i64 a (mask k)=lead k ↔ leads k a)∧(leads k a→bits .andNot .i64 a (mask k)=a - lead k):=by
 obtain ⟨n,rfl⟩:=Int.eq_ofNat_of_zero_le h0
 exact and_mask_all ⟨k,hk⟩ ⟨n,by omega⟩
theorem and_tail {a:Int} (h0:0≤a) (h1:a < 256):(bits .and .i64 a 192=128 ↔ contB a=true)∧(contB a=true→bits .and .i64 a 63=a - 128):=by
 obtain ⟨n,rfl⟩:=Int.eq_ofNat_of_zero_le h0
 exact and_tail_all ⟨n,by omega⟩
theorem ofInt_i64 (a:Nat) (ha:a < 9223372036854775808):(BitVec.ofInt 64 (a:Int)).toNat=a:=by
 rw [BitVec.ofInt_natCast,BitVec.toNat_ofNat];exact Nat.mod_eq_of_lt (by omega)
theorem or_six {c d:Int} (h0:0≤c) (h1:c < 134217728) (h2:0≤d) (h3:d < 64):bits .or .i64 (c*64) d=c*64+d:=by
 obtain ⟨a,rfl⟩:=Int.eq_ofNat_of_zero_le h0
 obtain ⟨b,rfl⟩:=Int.eq_ofNat_of_zero_le h2
 have e:((a:Int)*64)=((a*64:Nat):Int):=by omega
 rw [e]
 show IntKind.i64.wrap ((BitVec.ofInt 64 ((a*64:Nat):Int) ||| BitVec.ofInt 64 (b:Int)).toNat:Int)=_
 have h:=Nat.shiftLeft_add_eq_or_of_lt (b:=b) (i:=6) (by omega) a
 rw [BitVec.toNat_or,ofInt_i64 _ (by omega),ofInt_i64 b (by omega),show a*64=a <<< 6 from by rw [Nat.shiftLeft_eq],← h,IntKind.wrap_i64,Nat.shiftLeft_eq]
 omega
theorem decK_bd {k:Nat} {l:List UInt8} {p:Int × Int} (hk:k < 4) (h:decK k l=some p):p.2=(k:Int)+1∧k+1≤l.length∧0≤p.1∧fair k p.1:=by
 unfold decK at h
 split at h
 · rename_i hc
   obtain ⟨h1,h2,h3,h4⟩:=hc
   injection h with h
   subst h
   have hls:=leads_bd h2
   exact ⟨rfl,by omega,(acc_small hls.1 hls.2 (by omega) h3).1,h4⟩
 · cases h
theorem dec_cases (l:List UInt8):(noneTo l 4∧dec l=(0,0))∨∃ k,k < 4∧noneTo l k∧decK k l=some (dec l):=by
 cases h0:decK 0 l with
 | some p=>exact .inr ⟨0,by omega,fun j hj=>by omega,by rw [dec_some (k:=0) (by omega) (fun j hj=>by omega) h0,h0]⟩
 | none =>
   have n1 : noneTo l 1 := fun j hj => by obtain rfl:j=0:=by omega
                                          exact h0
   cases h1:decK 1 l with
   | some p=>exact .inr ⟨1,by omega,n1,by rw [dec_some (k:=1) (by omega) n1 h1,h1]⟩
   | none =>
     have n2:=noneTo_succ n1 h1
     cases h2:decK 2 l with
     | some p=>exact .inr ⟨2,by omega,n2,by rw [dec_some (k:=2) (by omega) n2 h2,h2]⟩
     | none =>
       have n3:=noneTo_succ n2 h2
       cases h3:decK 3 l with
       | some p=>exact .inr ⟨3,by omega,n3,by rw [dec_some (k:=3) (by omega) n3 h3,h3]⟩
       | none=>exact .inl ⟨noneTo_succ n3 h3,dec_none (noneTo_succ n3 h3)⟩
theorem dec_bd (l:List UInt8):0≤(dec l).2∧(dec l).2≤4∧(dec l).2≤l.length∧0≤(dec l).1∧(dec l).1≤1114111∧halfB (dec l).1=false:=by
 rcases dec_cases l with ⟨_,h⟩|⟨k,hk,_,h⟩
 · rw [h];simp [halfB]
 · obtain ⟨h1,h2,h3,h4⟩:=decK_bd hk h
   unfold fair at h4
   exact ⟨by omega,by omega,by omega,h3,h4.2.1,h4.2.2⟩
def codesF:Nat→List UInt8→Option (List Int)
 | _,[]=>some []
 | 0,_ :: _=>none
 | n+1,b :: t=>if (dec (b :: t)).2=0 then none else (codesF n ((b :: t).drop (dec (b :: t)).2.toNat)).map ((dec (b :: t)).1 :: ·)
def codes (l:List UInt8):Option (List Int):=codesF l.length l
theorem codesF_enough:∀ (n m:Nat) (l:List UInt8),l.length≤n→l.length≤m→codesF n l=codesF m l:=by
 intro n
 induction n with
 | zero =>
   intro m l h _
   have:l=[]:=List.eq_nil_of_length_eq_zero (by omega)
   subst this
   cases m<;>rfl
 | succ n ih =>
   intro m l hn hm
   cases l with
   | nil=>cases m<;>rfl
   | cons b t =>
     cases m with
     | zero=>simp at hm
     | succ m =>
       have hb:=dec_bd (b :: t)
       simp only [codesF]
       split
       · rfl
       · rename_i h0
         rw [ih m _ (by simp only [List.length_drop,List.length_cons] at *;omega) (by simp only [List.length_drop,List.length_cons] at *;omega)]
theorem codes_nil:codes []=some []:=rfl
theorem codes_bad {l:List UInt8} (h:l ≠ []) (h0:(dec l).2=0):codes l=none:=by
 cases l with
 | nil=>exact absurd rfl h
 | cons b t=>simp only [codes,List.length_cons,codesF,if_pos h0]
theorem codes_step {l:List UInt8} (h:l ≠ []) (h0:(dec l).2 ≠ 0):codes l=(codes (l.drop (dec l).2.toNat)).map ((dec l).1 :: ·):=by
 cases l with
 | nil=>exact absurd rfl h
 | cons b t =>
   have hb:=dec_bd (b :: t)
   show codesF (t.length+1) (b :: t)=_
   simp only [codesF,if_neg h0]
   rw [codesF_enough t.length ((b :: t).drop (dec (b :: t)).2.toNat).length _ (by simp only [List.length_drop,List.length_cons] at *;omega) (Nat.le_refl _)]
   rfl
def eachP (p:Int→Bool) (l:List UInt8):Bool:=
 match codes l with
 | some cs=>cs.all p
 | none=>false
theorem eachP_bad {p:Int→Bool} {l:List UInt8} (h:l ≠ []) (h0:(dec l).2=0):eachP p l=false:=by simp [eachP,codes_bad h h0]
theorem eachP_step {p:Int→Bool} {l:List UInt8} (h:l ≠ []) (h0:(dec l).2 ≠ 0):eachP p l=(p (dec l).1 && eachP p (l.drop (dec l).2.toNat)):=by
 unfold eachP
 rw [codes_step h h0]
 cases codes (l.drop (dec l).2.toNat) with
 | none=>simp
 | some cs=>simp
def srcB (c:Int):Bool:=decide (c=9∨c=10∨c=13∨(32≤c∧c < 65536))
def goodB (l:List UInt8):Bool:=eachP (fun _=>true) l
def sourceB (l:List UInt8):Bool:=eachP srcB l
theorem goodB_iff (l:List UInt8):goodB l=(codes l).isSome:=by
 unfold goodB eachP
 cases codes l<;>simp
def pairUp:List Int→Option (List Int)
 | []=>some []
 | [c]=>if c < 0∨65536≤c∨halfB c=true then none else some [c]
 | c :: d :: t=>if c < 0∨65536≤c then none else if halfB c=true then (if pairB c d=true then (pairUp t).map ((65536+1024*(c - 55296)+d - 56320) :: ·) else none) else (pairUp (d :: t)).map (c :: ·)
def bytesOf (cs:List Int):List UInt8:=cs.flatMap Lib.encodeRune
def joinL (l:List Int):Option (List UInt8):=(pairUp l).map bytesOf
def unitOf (c:Int):List Int:=if c < 65536 then [c] else [55296+(c - 65536) / 1024,56320+(c - 65536) % 1024]
def unitsOf (cs:List Int):List Int:=cs.flatMap unitOf
def okB (c:Int):Bool:=decide (0≤c∧c≤1114111∧halfB c=false)
theorem pairUp_one {c:Int} {t:List Int} (h0 : ¬ c < 0) (h1 : ¬ 65536≤c) (h2:halfB c=false):pairUp (c :: t)=(pairUp t).map (c :: ·):=by
 cases t with
 | nil=>simp [pairUp,h0,h1,h2]
 | cons d t=>simp [pairUp,h0,h1,h2]
theorem pairUp_two {c d:Int} {t:List Int} (h0 : ¬ c < 0) (h1 : ¬ 65536≤c) (h2:halfB c=true) (h3:pairB c d=true):pairUp (c :: d :: t)=(pairUp t).map ((65536+1024*(c - 55296)+d - 56320) :: ·):=by
 simp [pairUp,h0,h1,h2,h3]
theorem pairUp_range {c:Int} {t:List Int} (h:c < 0∨65536≤c):pairUp (c :: t)=none:=by
 cases t with
 | nil=>simp only [pairUp];rw [if_pos (by rcases h with h|h;exact .inl h;exact .inr (.inl h))]
 | cons d t=>simp only [pairUp];rw [if_pos h]
theorem pairUp_end {c:Int} (h:halfB c=true):pairUp [c]=none:=by
 simp [pairUp,h]
theorem pairUp_odd {c d:Int} {t:List Int} (h2:halfB c=true) (h3:pairB c d=false):pairUp (c :: d :: t)=none:=by
 simp [pairUp,h2,h3]
theorem units_of_pairUp:∀ (n:Nat) (l cs:List Int),l.length≤n→pairUp l=some cs→unitsOf cs=l∧cs.all okB=true:=by
 intro n
 induction n with
 | zero =>
   intro l cs hl h
   have:l=[]:=List.eq_nil_of_length_eq_zero (by omega)
   subst this
   simp only [pairUp,Option.some.injEq] at h
   subst h
   exact ⟨rfl,rfl⟩
 | succ n ih =>
   intro l cs hl h
   cases l with
   | nil =>
     simp only [pairUp,Option.some.injEq] at h
     subst h
     exact ⟨rfl,rfl⟩
   | cons c t =>
     by_cases hr:c < 0∨65536≤c
     · rw [pairUp_range hr] at h;cases h
     · cases hh : halfB c
       · rw [pairUp_one (by omega) (by omega) hh] at h
         obtain ⟨cs',h',rfl⟩:=Option.map_eq_some_iff.1 h
         obtain ⟨a,b⟩:=ih t cs' (by simp at hl;omega) h'
         refine ⟨?_,?_⟩
         · have:unitOf c=[c]:=by unfold unitOf;rw [if_pos (by omega)]
           show unitOf c++unitsOf cs'=_
           rw [this,a];rfl
         · rw [List.all_cons,b,Bool.and_true]
           simp [okB,hh];omega
       · cases t with
         | nil=>rw [pairUp_end hh] at h;cases h
         | cons d t =>
           cases hp:pairB c d
           · rw [pairUp_odd hh hp] at h;cases h
           · rw [pairUp_two (by omega) (by omega) hh hp] at h
             obtain ⟨cs',h',rfl⟩:=Option.map_eq_some_iff.1 h
             obtain ⟨a,b⟩:=ih t cs' (by simp at hl;omega) h'
             have hp':55296≤c∧c < 56320∧56320≤d∧d≤57343:=by simpa [pairB] using hp
             refine ⟨?_,?_⟩
             · have:unitOf (65536+1024*(c - 55296)+d - 56320)=[c,d]:=by
                unfold unitOf
                rw [if_neg (by omega)]
                congr 1
                · omega
                · congr 1;omega
               show unitOf _++unitsOf cs'=_
               rw [this,a];rfl
             · rw [List.all_cons,b,Bool.and_true]
               simp [okB,halfB];omega
theorem byt_cons_zero (b:UInt8) (t:List UInt8):byt (b :: t) 0=(b.toNat:Int):=rfl
theorem byt_cons_succ (b:UInt8) (t:List UInt8) (k:Nat):byt (b :: t) (k+1)=byt t k:=rfl
theorem toNat_ofInt {x:Int} (h0:0≤x) (h1:x < 256):((x.toNat.toUInt8).toNat:Int)=x:=by
 obtain ⟨n,rfl⟩:=Int.eq_ofNat_of_zero_le h0
 simp [Nat.toUInt8,UInt8.toNat_ofNat']
 omega
theorem leads_inj {j k:Nat} {a:Int} (hj:j < 4) (hk:k < 4) (h1:leads j a) (h2:leads k a):j=k:=by
 unfold leads at h1 h2
 match j,hj,k,hk with
 | 0,_,0,_|1,_,1,_|2,_,2,_|3,_,3,_=>rfl
 | 0,_,1,_|0,_,2,_|0,_,3,_|1,_,0,_|1,_,2,_|1,_,3,_|2,_,0,_|2,_,1,_|2,_,3,_|3,_,0,_|3,_,1,_|3,_,2,_ =>
   simp only [lead,wide] at h1 h2;omega
theorem dec_of {l:List UInt8} {k:Nat} {c:Int} (hk:k < 4) (h1:k < l.length) (h2:leads k (byt l 0)) (h3:contTo l (k+1)=true) (ha:acc l (byt l 0 - lead k) (k+1)=c) (h4:fair k c):dec l=(c,(k:Int)+1):=by
 subst ha
 exact dec_some hk (fun j hj=>decK_leads (fun h=>by have:=leads_inj (by omega) hk h h2;omega)) (decK_yes h1 h2 h3 h4)
theorem contB_yes {b:Int} (h0:128≤b) (h1:b≤191):contB b=true:=by simp [contB,h0,h1]
theorem dec_encode {c:Int} (h:okB c=true) (t:List UInt8):dec (Lib.encodeRune c++t)=(c,((Lib.encodeRune c).length:Int)):=by
 have hok:0≤c∧c≤1114111∧halfB c=false:=by simpa [okB] using h
 obtain ⟨h0,h1,h2⟩:=hok
 have hh : ¬ (55296≤c∧c≤57343):=by simpa [halfB] using h2
 by_cases a1:c≤127
 · have e:Lib.encodeRune c=[c.toNat.toUInt8]:=by simp [Lib.encodeRune,Lib.encodeRuneZ_one h0 a1]
   rw [e]
   have b0:byt ([c.toNat.toUInt8]++t) 0=c:=toNat_ofInt h0 (by omega)
   have hl:1≤([c.toNat.toUInt8]++t).length:=by simp
   generalize [c.toNat.toUInt8]++t=l at *
   exact dec_of (k:=0) (by omega) (by omega) (by rw [b0];simp only [leads,lead,wide];omega) rfl (by rw [b0];simp [acc,lead]) ⟨h0,h1,h2⟩
 by_cases a2:c≤2047
 · have e:Lib.encodeRune c=[(192+c / 64).toNat.toUInt8,(128+c % 64).toNat.toUInt8]:=by simp [Lib.encodeRune,Lib.encodeRuneZ_two (by omega) a2]
   rw [e]
   generalize hx:(192+c / 64).toNat.toUInt8=x
   generalize hy:(128+c % 64).toNat.toUInt8=y
   have b0:byt ([x,y]++t) 0=192+c / 64:=by rw [← hx];exact toNat_ofInt (by omega) (by omega)
   have b1:byt ([x,y]++t) 1=128+c % 64:=by rw [← hy];exact toNat_ofInt (by omega) (by omega)
   have hl:2≤([x,y]++t).length:=by simp
   generalize [x,y]++t=l at *
   refine dec_of (k:=1) (by omega) (by omega) (by rw [b0];simp only [leads,lead,wide];omega) ?_ ?_ ⟨by simp only [least];omega,h1,h2⟩
   · simp only [contTo,b1,Bool.true_and];exact contB_yes (by omega) (by omega)
   · simp only [acc,b0,b1,lead];omega
 by_cases a3:c≤65535
 · have e:Lib.encodeRune c=[(224+c / 4096).toNat.toUInt8,(128+c / 64 % 64).toNat.toUInt8,(128+c % 64).toNat.toUInt8]:=by simp [Lib.encodeRune,Lib.encodeRuneZ_three (show (2048≤c∧c < 55296)∨(57343 < c∧c≤65535) by omega)]
   rw [e]
   generalize hx:(224+c / 4096).toNat.toUInt8=x
   generalize hy:(128+c / 64 % 64).toNat.toUInt8=y
   generalize hz:(128+c % 64).toNat.toUInt8=z
   have b0:byt ([x,y,z]++t) 0=224+c / 4096:=by rw [← hx];exact toNat_ofInt (by omega) (by omega)
   have b1:byt ([x,y,z]++t) 1=128+c / 64 % 64:=by rw [← hy];exact toNat_ofInt (by omega) (by omega)
   have b2:byt ([x,y,z]++t) 2=128+c % 64:=by rw [← hz];exact toNat_ofInt (by omega) (by omega)
   have hl:3≤([x,y,z]++t).length:=by simp
   generalize [x,y,z]++t=l at *
   refine dec_of (k:=2) (by omega) (by omega) (by rw [b0];simp only [leads,lead,wide];omega) ?_ ?_ ⟨by simp only [least];omega,h1,h2⟩
   · simp only [contTo,b1,b2,Bool.true_and];rw [contB_yes (by omega) (by omega),contB_yes (by omega) (by omega)];rfl
   · simp only [acc,b0,b1,b2,lead];omega
 · have e:Lib.encodeRune c=[(240+c / 262144).toNat.toUInt8,(128+c / 4096 % 64).toNat.toUInt8,(128+c / 64 % 64).toNat.toUInt8,(128+c % 64).toNat.toUInt8]:=by simp [Lib.encodeRune,Lib.encodeRuneZ_four (show 65536≤c by omega) h1]
   rw [e]
   generalize hx:(240+c / 262144).toNat.toUInt8=x
   generalize hy:(128+c / 4096 % 64).toNat.toUInt8=y
   generalize hz:(128+c / 64 % 64).toNat.toUInt8=z
   generalize hu:(128+c % 64).toNat.toUInt8=u
   have b0:byt ([x,y,z,u]++t) 0=240+c / 262144:=by rw [← hx];exact toNat_ofInt (by omega) (by omega)
   have b1:byt ([x,y,z,u]++t) 1=128+c / 4096 % 64:=by rw [← hy];exact toNat_ofInt (by omega) (by omega)
   have b2:byt ([x,y,z,u]++t) 2=128+c / 64 % 64:=by rw [← hz];exact toNat_ofInt (by omega) (by omega)
   have b3:byt ([x,y,z,u]++t) 3=128+c % 64:=by rw [← hu];exact toNat_ofInt (by omega) (by omega)
   have hl:4≤([x,y,z,u]++t).length:=by simp
   generalize [x,y,z,u]++t=l at *
   refine dec_of (k:=3) (by omega) (by omega) (by rw [b0];simp only [leads,lead,wide];omega) ?_ ?_ ⟨by simp only [least];omega,h1,h2⟩
   · simp only [contTo,b1,b2,b3,Bool.true_and];rw [contB_yes (by omega) (by omega),contB_yes (by omega) (by omega),contB_yes (by omega) (by omega)];rfl
   · simp only [acc,b0,b1,b2,b3,lead];omega
theorem ofNum {b:UInt8} {x:Int} (h:(b.toNat:Int)=x):x.toNat.toUInt8=b:=by
 subst h;simp
theorem encode_dec {l:List UInt8} (h:(dec l).2 ≠ 0):Lib.encodeRune (dec l).1=l.take (dec l).2.toNat:=by
 rcases dec_cases l with ⟨_,h'⟩|⟨k,hk,_,h'⟩
 · rw [h'] at h;exact absurd rfl h
 · obtain ⟨e2,hlen,h0,hf⟩:=decK_bd hk h'
   have hp:=h'
   unfold decK at hp
   split at hp
   · rename_i hc
     obtain ⟨_,hL,hC,_⟩:=hc
     injection hp with hp
     have e1:(dec l).1=acc l (byt l 0 - lead k) (k+1):=by rw [← hp]
     rw [e2,show ((k:Int)+1).toNat=k+1 from by omega]
     unfold fair at hf
     generalize (dec l).1=c at *
     clear h h' hp e2
     have hh : ¬ (55296≤c∧c≤57343):=by simpa [halfB] using hf.2.2
     have hcb:∀ b:Int,contB b=true→128≤b∧b≤191:=fun b hb=>by simpa [contB] using hb
     match k,hk with
     | 0,_ =>
       match l,hlen with
       | x :: t,_ =>
         simp only [acc,byt_cons_zero,lead,leads,wide] at e1 hL
         rw [Lib.encodeRune,Lib.encodeRuneZ_one h0 (by omega)]
         simp only [List.map,List.take_succ_cons,List.take_zero]
         rw [ofNum (b:=x) (by omega)]
     | 1,_ =>
       match l,hlen with
       | x :: y :: t,_ =>
         simp only [acc,byt_cons_zero,byt_cons_succ,lead,leads,wide,contTo,Bool.true_and] at e1 hL hC
         have c1:=hcb _ hC
         simp only [least] at hf
         rw [Lib.encodeRune,Lib.encodeRuneZ_two (by omega) (by omega)]
         simp only [List.map,List.take_succ_cons,List.take_zero]
         rw [ofNum (b:=x) (by omega),ofNum (b:=y) (by omega)]
     | 2,_ =>
       match l,hlen with
       | x :: y :: z :: t,_ =>
         simp only [acc,byt_cons_zero,byt_cons_succ,lead,leads,wide,contTo,Bool.true_and,Bool.and_eq_true] at e1 hL hC
         have c1:=hcb _ hC.1
         have c2:=hcb _ hC.2
         simp only [least] at hf
         rw [Lib.encodeRune,Lib.encodeRuneZ_three (by omega)]
         simp only [List.map,List.take_succ_cons,List.take_zero]
         rw [ofNum (b:=x) (by omega),ofNum (b:=y) (by omega),ofNum (b:=z) (by omega)]
     | 3,_ =>
       match l,hlen with
       | x :: y :: z :: u :: t,_ =>
         simp only [acc,byt_cons_zero,byt_cons_succ,lead,leads,wide,contTo,Bool.true_and,Bool.and_eq_true] at e1 hL hC
         have c1:=hcb _ hC.1.1
         have c2:=hcb _ hC.1.2
         have c3:=hcb _ hC.2
         simp only [least] at hf
         rw [Lib.encodeRune,Lib.encodeRuneZ_four (by omega) (by omega)]
         simp only [List.map,List.take_succ_cons,List.take_zero]
         rw [ofNum (b:=x) (by omega),ofNum (b:=y) (by omega),ofNum (b:=z) (by omega),ofNum (b:=u) (by omega)]
   · cases hp
theorem encode_ne (c:Int):Lib.encodeRune c ≠ []:=by
 have:=(Lib.encodeRuneZ_length c).1
 intro e
 have h:=congrArg List.length e
 simp [Lib.encodeRune] at h
 rw [h] at this
 simp at this
theorem codes_bytes:∀ (cs:List Int) (t:List UInt8),cs.all okB=true→codes (bytesOf cs++t)=(codes t).map (cs ++ ·):=by
 intro cs
 induction cs with
 | nil=>intro t _;show codes t=_;cases codes t<;>rfl
 | cons c cs ih =>
   intro t h
   rw [List.all_cons,Bool.and_eq_true] at h
   have e:bytesOf (c :: cs)++t=Lib.encodeRune c++(bytesOf cs++t):=by simp [bytesOf]
   have hd:=dec_encode h.1 (bytesOf cs++t)
   have hne:=encode_ne c
   have hpos:0 < (Lib.encodeRune c).length:=List.length_pos_iff.2 hne
   rw [e,codes_step (by simp [hne]) (by rw [hd];show ((Lib.encodeRune c).length:Int) ≠ 0;omega),hd]
   show Option.map _ (codes (List.drop (((Lib.encodeRune c).length:Int)).toNat _))=_
   rw [show (((Lib.encodeRune c).length:Int)).toNat=(Lib.encodeRune c).length from by omega,List.drop_left,ih t h.2]
   cases codes t<;>rfl
theorem bytes_codes:∀ (n:Nat) (l:List UInt8) (cs:List Int),l.length≤n→codes l=some cs→bytesOf cs=l∧cs.all okB=true:=by
 intro n
 induction n with
 | zero =>
   intro l cs hl h
   have:l=[]:=List.eq_nil_of_length_eq_zero (by omega)
   subst this
   rw [codes_nil,Option.some.injEq] at h
   subst h
   exact ⟨rfl,rfl⟩
 | succ n ih =>
   intro l cs hl h
   by_cases hn:l=[]
   · subst hn
     rw [codes_nil,Option.some.injEq] at h
     subst h
     exact ⟨rfl,rfl⟩
   · by_cases h0:(dec l).2=0
     · rw [codes_bad hn h0] at h;cases h
     · rw [codes_step hn h0] at h
       obtain ⟨cs',h',rfl⟩:=Option.map_eq_some_iff.1 h
       have hb:=dec_bd l
       obtain ⟨a,b⟩:=ih _ cs' (by rw [List.length_drop];omega) h'
       refine ⟨?_,?_⟩
       · show Lib.encodeRune (dec l).1++bytesOf cs'=l
         rw [encode_dec h0,a,List.take_append_drop]
       · rw [List.all_cons,b,Bool.and_true]
         simp [okB,hb.2.2.2.2.2];omega
theorem codes_append {l:List UInt8} {cs:List Int} (h:codes l=some cs) (t:List UInt8):codes (l++t)=(codes t).map (cs ++ ·):=by
 obtain ⟨a,b⟩:=bytes_codes _ l cs (Nat.le_refl _) h
 conv=>lhs;rw [← a]
 exact codes_bytes cs t b
end Go.Proofs.YtkacnnhdfkpenaaGreatDoor
