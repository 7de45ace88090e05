/- Plain facts on bytes, code points, names and UTF-16 units, of no program: what the walks of the package letters and of the document's own answer come to. -/
import Derived.Deep.DeepCutAuto
import Derived.Laws.BitsAllLaws
import Derived.Laws.BitsLemmas
import Derived.Test.YtaekdfcpbepepaaGreatDoorQt6
set_option maxRecDepth 100000
set_option maxHeartbeats 8000000
namespace Go.Proofs.YtaekdfcpbepepaaGreatDoor
def letB (c:Int):Bool:=decide ((97≤c∧c≤122)∨(65≤c∧c≤90)∨c=95)
def digB (c:Int):Bool:=decide (48≤c∧c≤57)
def halfB (c:Int):Bool:=decide (55296≤c∧c≤57343)
def pairB (a b:Int):Bool:=decide (55296≤a∧a < 56320∧56320≤b∧b≤57343)
def tailB (l:List UInt8):Bool:=l.all fun b=>letB (b.toNat:Int) || digB (b.toNat:Int)
def nameB:List UInt8→Bool
 | []=>false
 | b :: t=>letB (b.toNat:Int) && tailB t
theorem tailB_append (l m:List UInt8):tailB (l++m)=(tailB l && tailB m):=by simp [tailB]
theorem nameB_append (l m:List UInt8) (h:l ≠ []):nameB (l++m)=(nameB l && tailB m):=by
 cases l with
 | nil=>exact absurd rfl h
 | cons b t=>simp [nameB,tailB_append,Bool.and_assoc]
theorem take_snoc (s:ByteArray) (k:Nat) (h:k < s.size):s.data.toList.take (k+1)=s.data.toList.take k++[s[k]]:=by
 rw [List.take_succ_eq_append_getElem (by simpa using h)];rfl
def nameTo (s:ByteArray) (k:Nat):Prop:=k=0∨nameB (s.data.toList.take k)=true
theorem take_ne (s:ByteArray) (k:Nat) (h0:k ≠ 0) (h:k < s.size):s.data.toList.take k ≠ []:=by
 have:s.data.toList.length=s.size:=Array.length_toList
 intro e
 have:=congrArg List.length e
 simp only [List.length_take,List.length_nil] at this
 omega
theorem nameTo_letter {s:ByteArray} {k:Nat} (h:k < s.size) (ht:nameTo s k) (hl:letB (s[k].toNat:Int)=true):nameTo s (k+1):=by
 refine .inr ?_
 rw [take_snoc s k h]
 rcases ht with h0|ht
 · subst h0;simp [nameB,tailB,hl]
 · rw [nameB_append _ _ (by intro e;rw [e] at ht;cases ht),ht];simp [tailB,hl]
theorem nameTo_digit {s:ByteArray} {k:Nat} (h:k < s.size) (h0:k ≠ 0) (ht:nameTo s k) (hl:digB (s[k].toNat:Int)=true):nameTo s (k+1):=by
 refine .inr ?_
 rw [take_snoc s k h]
 rcases ht with h0'|ht
 · exact absurd h0' h0
 · rw [nameB_append _ _ (by intro e;rw [e] at ht;cases ht),ht];simp [tailB,hl]
theorem nameB_split (s:ByteArray) (k:Nat) (h:k < s.size):s.data.toList=s.data.toList.take k++s[k] :: s.data.toList.drop (k+1):=by
 have e:=(List.take_append_drop (k+1) s.data.toList).symm
 rw [take_snoc s k h,List.append_assoc] at e
 exact e
theorem name_stop0 {s:ByteArray} (h:0 < s.size) (hl:letB (s[0].toNat:Int)=false):nameB s.data.toList=false:=by
 rw [nameB_split s 0 h];simp [nameB,hl]
theorem name_stop {s:ByteArray} {k:Nat} (h:k < s.size) (h0:k ≠ 0) (hl:letB (s[k].toNat:Int)=false) (hd:digB (s[k].toNat:Int)=false):nameB s.data.toList=false:=by
 rw [nameB_split s k h,nameB_append _ _ (take_ne s k h0 h)]
 simp [tailB,hl,hd]
theorem name_done {s:ByteArray} (ht:nameTo s s.size):nameB s.data.toList = !s.toList.isEmpty:=by
 have hl:s.data.toList.length=s.size:=Array.length_toList
 have e:s.toList=s.data.toList:=Lib.toList_data s
 rw [e]
 rcases ht with h0|ht
 · have:s.data.toList=[]:=List.eq_nil_of_length_eq_zero (by omega)
   rw [this];rfl
 · rw [← hl,List.take_length] at ht
   rw [ht]
   cases h:s.data.toList with
   | nil=>rw [h] at ht;cases ht
   | cons _ _=>rfl
open Go.RowKit
theorem Aside.intro {p:Prop} (h:p):Aside p:=h
theorem ret_bool {a b:Bool} (h:a=b):Ending.returned (.bool a)=.returned (.bool b):=by rw [h]
theorem ret_boolw {a b:Bool} {w:World} (h:a=true ↔ b=true):Ending.returned (.bool a)=.returned (.bool b)∧w=w:=by rw [Bool.eq_iff_iff.2 h];exact ⟨rfl,rfl⟩
theorem letter_any (c:Int) (w:World):Calls Tryz.prog 36 #[.int .u8 c] w fun e w'=>e=.returned (.bool (letB c))∧w=w':=by
 go_enter Tryz.func36,Tryz.ntmps36
 go_wp2
 all_goals go_ret
 all_goals (refine ret_boolw ?_;simp [letB];try omega)
theorem digit_any (c:Int) (w:World):Calls Tryz.prog 37 #[.int .u8 c] w fun e w'=>e=.returned (.bool (digB c))∧w=w':=by
 go_enter Tryz.func37,Tryz.ntmps37
 go_wp2
 all_goals go_ret
 all_goals (refine ret_boolw ?_;simp [digB];try omega)
theorem half_any (c:Int) (w:World):Calls Tryz.prog 240 #[.int .i64 c] w fun e w'=>e=.returned (.bool (halfB c))∧w=w':=by
 go_enter Tryz.func240,Tryz.ntmps240
 go_wp2
 all_goals go_ret
 all_goals (refine ret_boolw ?_;simp [halfB];try omega)
theorem name_any (s:ByteArray) (w:World) (hs:s.size≤9223372036854775807):Calls Tryz.prog 17 #[.string s] w fun e w'=>e=.returned (.bool (nameB s.data.toList))∧w=w':=by
 go_enter Tryz.func17,Tryz.ntmps17
 go_wp2
 go_loop [6] (fun i=>∃ k:Nat,k≤s.size∧i=.int .i64 k∧nameTo s k) (fun i=>s.size - (intOf i).toNat)
 case atStart=>exact ⟨0,Nat.zero_le _,rfl,.inl rfl⟩
 case round =>
  obtain ⟨k,hk,rfl,H⟩:=hrel
  by_cases hlt:k < s.size
  · cases hl:letB (s[k].toNat:Int)
    · by_cases h0:k=0
      · have hst:=Aside.intro (name_stop0 (s:=s) (by omega) (by subst h0;exact hl))
        have e0:((k:Int) == 0)=true:=by simp [h0]
        clear h0 H
        go_wp2_with (first
          | (go_at_call 36;refine (letter_any _ _).mono ?_;rintro e w' ⟨rfl,rfl⟩)
          | (go_at_call 37;refine (digit_any _ _).mono ?_;rintro e w' ⟨rfl,rfl⟩))
        go_ret
        exact ⟨ret_bool hst.out.symm,rfl⟩
      · have e0:((k:Int) == 0)=false:=by simp [h0]
        cases hd:digB (s[k].toNat:Int)
        · have hst:=Aside.intro (name_stop (s:=s) hlt h0 hl hd)
          clear h0 H
          go_wp2_with (first
           | (go_at_call 36;refine (letter_any _ _).mono ?_;rintro e w' ⟨rfl,rfl⟩)
           | (go_at_call 37;refine (digit_any _ _).mono ?_;rintro e w' ⟨rfl,rfl⟩))
          go_ret
          exact ⟨ret_bool hst.out.symm,rfl⟩
        · have hst:=Aside.intro (nameTo_digit (s:=s) hlt h0 H hd)
          clear h0 H
          go_wp2_with (first
           | (go_at_call 36;refine (letter_any _ _).mono ?_;rintro e w' ⟨rfl,rfl⟩)
           | (go_at_call 37;refine (digit_any _ _).mono ?_;rintro e w' ⟨rfl,rfl⟩))
          go_round
          case rel=>exact ⟨k+1,by omega,by go_num,hst.out⟩
          case measure=>simp [intOf];omega
    · have hst:=Aside.intro (nameTo_letter (s:=s) hlt H hl)
      clear H
      go_wp2_with (first
        | (go_at_call 36;refine (letter_any _ _).mono ?_;rintro e w' ⟨rfl,rfl⟩)
        | (go_at_call 37;refine (digit_any _ _).mono ?_;rintro e w' ⟨rfl,rfl⟩))
      go_round
      case rel=>exact ⟨k+1,by omega,by go_num,hst.out⟩
      case measure=>simp [intOf];omega
  · obtain rfl:k=s.size:=by omega
    have hst:=Aside.intro (name_done H)
    clear H hk
    go_wp2
    go_ret
    exact ⟨ret_bool hst.out.symm,rfl⟩
def rightT (n:List UInt8) (l m:Int):Bool:=nameB n && (decide (0≤l) && (decide (l≤4) && (decide (0≤m) && decide (m < 2 ^ (l.toNat+1)))))
theorem below_new {w:World} {cs:Array Value} {t:TypeId} : Below w.heap.size w (w.alloc (.cells cs t)):=(Below.refl _ _).alloc (Nat.le_refl _) _
theorem bdraw {B:Nat} {a w:World} (h:Below B a w) (n:Nat):Below B a (w.drewN n):=⟨h.os,h.tape,h.output,h.size,h.block⟩
theorem ret_bb {a b:Bool} (h:a=b):Ending.returned (.bool a)=.returned (.bool b):=by rw [h]
theorem right_true {n:List UInt8} {l m:Int} (h:rightT n l m=true):nameB n=true∧0≤l∧l≤4∧0≤m∧m < 2 ^ (l.toNat+1):=by
 simpa [rightT] using h
theorem right_small {n:List UInt8} {l m:Int} (h:rightT n l m=true):0≤l∧l≤4∧0≤m∧m < 32:=by
 obtain ⟨_,h1,h2,h3,h4⟩:=right_true h
 refine ⟨h1,h2,h3,?_⟩
 have:l=0∨l=1∨l=2∨l=3∨l=4:=by omega
 rcases this with rfl|rfl|rfl|rfl|rfl<;>simp at h4<;>omega
theorem right_of {n:List UInt8} {l m:Int} (hn:nameB n=true) (h1:0≤l) (h2:l≤4) (h3:0≤m) (h4:m < 2 ^ (l.toNat+1)):rightT n l m=true:=by
 simp [rightT,hn,h1,h2,h3,h4]
theorem five {l:Int} (h0:0≤l) (h4:l≤4):l=0∨l=1∨l=2∨l=3∨l=4:=by omega
theorem wright_any (n:ByteArray) (l m:Int) (w:World) (hn:n.size≤9223372036854775807):Calls Tryz.prog 44 #[.agg #[.string n,.int .i64 l,.int .i64 m]] w fun e w'=>e=.returned (.bool (rightT n.data.toList l m))∧Below w.heap.size w w':=by
 have HN:=fun w=>Hd (name_any n w (by omega))
 have HB:=Hd (below_new (w:=w) (cs:=#[.string n,.int .i64 l,.int .i64 m]) (t:=43))
 cases hb:nameB n.data.toList
 · have hr:Hid (rightT n.data.toList l m=false):=Hd (by simp [rightT,hb])
   rw [hb] at HN
   clear hb
   go_enter Tryz.func44,Tryz.ntmps44
   go_wp2
   go_quiet (exact (HN _).out.mono fun _ _ h=>⟨h.1,_,h.2.symm⟩)
   go_wp2
   go_ret
   exact ⟨ret_bb hr.out.symm,bdraw HB.out _⟩
 · rw [hb] at HN
   have hb':=Hd hb
   clear hb
   by_cases h1:0≤l
   · by_cases h2:l≤4
     · by_cases h3:0≤m
       · have t1:decide ((0:Int)≤m)=true:=by simpa using h3
         rcases five h1 h2 with rfl|rfl|rfl|rfl|rfl
         · by_cases h4:m < 2
           · have hr:Hid (rightT n.data.toList 0 m=true):=Hd (right_of hb'.out (by omega) (by omega) h3 (by simpa using h4))
             have t2:decide (m < 2)=true:=by simpa using h4
             go_enter Tryz.func44,Tryz.ntmps44
             go_wp2
             go_quiet (exact (HN _).out.mono fun _ _ h=>⟨h.1,_,h.2.symm⟩)
             go_wp2
             go_ret
             exact ⟨ret_bb hr.out.symm,bdraw HB.out _⟩
           · have hr:Hid (rightT n.data.toList 0 m=false):=Hd (by simp [rightT];intro _ _;simp at h4;omega)
             have t2:decide (m < 2)=false:=by simpa using h4
             go_enter Tryz.func44,Tryz.ntmps44
             go_wp2
             go_quiet (exact (HN _).out.mono fun _ _ h=>⟨h.1,_,h.2.symm⟩)
             go_wp2
             go_ret
             exact ⟨ret_bb hr.out.symm,bdraw HB.out _⟩
         · by_cases h4:m < 4
           · have hr:Hid (rightT n.data.toList 1 m=true):=Hd (right_of hb'.out (by omega) (by omega) h3 (by simpa using h4))
             have t2:decide (m < 4)=true:=by simpa using h4
             go_enter Tryz.func44,Tryz.ntmps44
             go_wp2
             go_quiet (exact (HN _).out.mono fun _ _ h=>⟨h.1,_,h.2.symm⟩)
             go_wp2
             go_ret
             exact ⟨ret_bb hr.out.symm,bdraw HB.out _⟩
           · have hr:Hid (rightT n.data.toList 1 m=false):=Hd (by simp [rightT];intro _ _;simp at h4;omega)
             have t2:decide (m < 4)=false:=by simpa using h4
             go_enter Tryz.func44,Tryz.ntmps44
             go_wp2
             go_quiet (exact (HN _).out.mono fun _ _ h=>⟨h.1,_,h.2.symm⟩)
             go_wp2
             go_ret
             exact ⟨ret_bb hr.out.symm,bdraw HB.out _⟩
         · by_cases h4:m < 8
           · have hr:Hid (rightT n.data.toList 2 m=true):=Hd (right_of hb'.out (by omega) (by omega) h3 (by simpa using h4))
             have t2:decide (m < 8)=true:=by simpa using h4
             go_enter Tryz.func44,Tryz.ntmps44
             go_wp2
             go_quiet (exact (HN _).out.mono fun _ _ h=>⟨h.1,_,h.2.symm⟩)
             go_wp2
             go_ret
             exact ⟨ret_bb hr.out.symm,bdraw HB.out _⟩
           · have hr:Hid (rightT n.data.toList 2 m=false):=Hd (by simp [rightT];intro _ _;simp at h4;omega)
             have t2:decide (m < 8)=false:=by simpa using h4
             go_enter Tryz.func44,Tryz.ntmps44
             go_wp2
             go_quiet (exact (HN _).out.mono fun _ _ h=>⟨h.1,_,h.2.symm⟩)
             go_wp2
             go_ret
             exact ⟨ret_bb hr.out.symm,bdraw HB.out _⟩
         · by_cases h4:m < 16
           · have hr:Hid (rightT n.data.toList 3 m=true):=Hd (right_of hb'.out (by omega) (by omega) h3 (by simpa using h4))
             have t2:decide (m < 16)=true:=by simpa using h4
             go_enter Tryz.func44,Tryz.ntmps44
             go_wp2
             go_quiet (exact (HN _).out.mono fun _ _ h=>⟨h.1,_,h.2.symm⟩)
             go_wp2
             go_ret
             exact ⟨ret_bb hr.out.symm,bdraw HB.out _⟩
           · have hr:Hid (rightT n.data.toList 3 m=false):=Hd (by simp [rightT];intro _ _;simp at h4;omega)
             have t2:decide (m < 16)=false:=by simpa using h4
             go_enter Tryz.func44,Tryz.ntmps44
             go_wp2
             go_quiet (exact (HN _).out.mono fun _ _ h=>⟨h.1,_,h.2.symm⟩)
             go_wp2
             go_ret
             exact ⟨ret_bb hr.out.symm,bdraw HB.out _⟩
         · by_cases h4:m < 32
           · have hr:Hid (rightT n.data.toList 4 m=true):=Hd (right_of hb'.out (by omega) (by omega) h3 (by simpa using h4))
             have t2:decide (m < 32)=true:=by simpa using h4
             go_enter Tryz.func44,Tryz.ntmps44
             go_wp2
             go_quiet (exact (HN _).out.mono fun _ _ h=>⟨h.1,_,h.2.symm⟩)
             go_wp2
             go_ret
             exact ⟨ret_bb hr.out.symm,bdraw HB.out _⟩
           · have hr:Hid (rightT n.data.toList 4 m=false):=Hd (by simp [rightT];intro _ _;simp at h4;omega)
             have t2:decide (m < 32)=false:=by simpa using h4
             go_enter Tryz.func44,Tryz.ntmps44
             go_wp2
             go_quiet (exact (HN _).out.mono fun _ _ h=>⟨h.1,_,h.2.symm⟩)
             go_wp2
             go_ret
             exact ⟨ret_bb hr.out.symm,bdraw HB.out _⟩
       · have hr:Hid (rightT n.data.toList l m=false):=Hd (by simp [rightT];omega)
         have t1:decide ((0:Int)≤m)=false:=by simpa using h3
         go_enter Tryz.func44,Tryz.ntmps44
         go_wp2
         go_quiet (exact (HN _).out.mono fun _ _ h=>⟨h.1,_,h.2.symm⟩)
         go_wp2
         go_ret
         exact ⟨ret_bb hr.out.symm,bdraw HB.out _⟩
     · have hr:Hid (rightT n.data.toList l m=false):=Hd (by simp [rightT];omega)
       have t1:decide (l≤(4:Int))=false:=by simpa using h2
       go_enter Tryz.func44,Tryz.ntmps44
       go_wp2
       go_quiet (exact (HN _).out.mono fun _ _ h=>⟨h.1,_,h.2.symm⟩)
       go_wp2
       go_ret
       exact ⟨ret_bb hr.out.symm,bdraw HB.out _⟩
   · have hr:Hid (rightT n.data.toList l m=false):=Hd (by simp [rightT];omega)
     have t1:decide ((0:Int)≤l)=false:=by simpa using h1
     go_enter Tryz.func44,Tryz.ntmps44
     go_wp2
     go_quiet (exact (HN _).out.mono fun _ _ h=>⟨h.1,_,h.2.symm⟩)
     go_wp2
     go_ret
     exact ⟨ret_bb hr.out.symm,bdraw HB.out _⟩
theorem blw (w:World) (o:Obj):Below w.heap.size w (w.alloc o):=(Below.refl _ _).alloc (Nat.le_refl _) _
theorem ty_cells {w:World} {b:Nat} {x y z:Value} (h:w.heap[b]? = some (.cells #[x,y,z] 43 (0,0))):w.cell? ⟨b,0,none⟩=some x∧w.cell? ⟨b,1,none⟩=some y∧w.cell? ⟨b,2,none⟩=some z∧w.frozen? ⟨b,0,none⟩=false∧w.frozen? ⟨b,1,none⟩=false∧w.frozen? ⟨b,2,none⟩=false:=by
 simp [World.cell?,World.frozen?,h]
theorem ty_set {w:World} {b:Nat} {x y z x' y' z':Value} (h:w.heap[b]? = some (.cells #[x,y,z] 43 (0,0))):(((w.setCell ⟨b,0,none⟩ x').setCell ⟨b,1,none⟩ y').setCell ⟨b,2,none⟩ z').heap[b]? = some (.cells #[x',y',z'] 43 (0,0)):=by
 simp [World.setCell,Array.getElem?_modify,h]
theorem wset_other {w:World} {b c:Nat} {j:Nat} {v:Value} {o:Obj} (h:w.heap[b]? = some o) (hne:c ≠ b):(w.setCell ⟨c,j,none⟩ v).heap[b]? = some o:=by
 simp [World.setCell,Array.getElem?_modify,h,hne]
theorem ret_ty {R:Ending→World→Prop} {fn:Func} {a:Act} {W:World} {x y z:Value} {b:Nat} (hf:fn.results=#[.cell 2 43,.tmp 3]) (h2:a.tmps.getD 2 undef=.pointer (some ⟨b,0,none⟩)) (hd:a.defers=[])
  (hc:W.heap[b]? = some (.cells #[x,y,z] 43 (0,0))) (hR:R (.returned (.tuple #[.agg #[x,y,z],a.tmps.getD 3 undef])) W):bodyPost Tryz.prog fn R .ret a W:=by
 have hl:(loadVar 43 ⟨b,0,none⟩).run Tryz.prog W=.ok (.agg #[x,y,z]) W:=
  run_loadVar_row W b 43 43 #[x,y,z] (0,0) _ hc Tryz.underlying43 rfl (by kernel_rfl)
 refine bodyPost_ret ?_ hd hR
 have h2':a.tmps[2]?.getD undef=.pointer (some ⟨b,0,none⟩):=by rw [← h2];simp
 simp [results,hf,h2',asAddr,hl]
theorem ret_ty1 {R:Ending→World→Prop} {fn:Func} {a:Act} {W:World} {x y z:Value} {b:Nat} (hf:fn.results=#[.cell 2 43]) (h2:a.tmps.getD 2 undef=.pointer (some ⟨b,0,none⟩)) (hd:a.defers=[])
  (hc:W.heap[b]? = some (.cells #[x,y,z] 43 (0,0))) (hR:R (.returned (.agg #[x,y,z])) W):bodyPost Tryz.prog fn R .ret a W:=by
 have hl:(loadVar 43 ⟨b,0,none⟩).run Tryz.prog W=.ok (.agg #[x,y,z]) W:=
  run_loadVar_row W b 43 43 #[x,y,z] (0,0) _ hc Tryz.underlying43 rfl (by kernel_rfl)
 refine bodyPost_ret ?_ hd hR
 have h2':a.tmps[2]?.getD undef=.pointer (some ⟨b,0,none⟩):=by rw [← h2];simp
 simp [results,hf,h2',asAddr,hl]
def noT:Value:=.tuple #[.agg #[.string ⟨#[]⟩,.int .i64 0,.int .i64 0],.bool false]
def yesT (n:ByteArray) (l m:Int):Value:=.tuple #[.agg #[.string n,.int .i64 l,.int .i64 m],.bool true]
def itemV (n:ByteArray) (l m:Int):Value:=if rightT n.data.toList l m=true∧l ≠ 0 then yesT n (l - 1) (m / 2) else noT
theorem new_two (w:World) (o o':Obj):((w.alloc o).alloc o').heap[w.heap.size]? = some o∧((w.alloc o).alloc o').heap[w.heap.size+1]? = some o':=by
 have h2:=heap_alloc_last (w.alloc o) o'
 have e:(w.alloc o).heap.size=w.heap.size+1:=by simp
 rw [e] at h2
 refine ⟨?_,h2⟩
 exact ((blw (w.alloc o) o').block w.heap.size (by omega)).trans (heap_alloc_last w o)
theorem wtwo_new {w w2:World} {x y z x' y' z':Value} (hb:Below ((w.alloc (.cells #[x,y,z] 43)).alloc (.cells #[x',y',z'] 43)).heap.size ((w.alloc (.cells #[x,y,z] 43)).alloc (.cells #[x',y',z'] 43)) w2) :
  w2.heap[w.heap.size]? = some (.cells #[x,y,z] 43 (0,0))∧w2.heap[w.heap.size+1]? = some (.cells #[x',y',z'] 43 (0,0))∧Below w.heap.size w w2:=by
 obtain ⟨h0,h1⟩:=new_two w (.cells #[x,y,z] 43) (.cells #[x',y',z'] 43)
 have e:((w.alloc (.cells #[x,y,z] 43)).alloc (.cells #[x',y',z'] 43)).heap.size=w.heap.size+1+1:=by simp
 refine ⟨(hb.block w.heap.size (by omega)).trans h0,(hb.block (w.heap.size+1) (by omega)).trans h1,below_new.trans ((below_new.mono (by simp)).trans (hb.mono (by omega)))⟩
theorem one_new {w w2:World} {x y z:Value} (hb:Below (w.alloc (.cells #[x,y,z] 43)).heap.size (w.alloc (.cells #[x,y,z] 43)) w2):w2.heap[w.heap.size]? = some (.cells #[x,y,z] 43 (0,0))∧Below w.heap.size w w2:=
 ⟨(hb.block w.heap.size (by simp)).trans (heap_alloc_last _ _),below_new.trans (hb.mono (by simp))⟩
theorem set3 {B:Nat} {w w2:World} {b:Nat} (h:Below B w w2) (hb:B≤b) (x y z:Value):Below B w (((w2.setCell ⟨b,0,none⟩ x).setCell ⟨b,1,none⟩ y).setCell ⟨b,2,none⟩ z):=((h.setCell hb _).setCell hb _).setCell hb _
def mustV (n:ByteArray) (l m:Int):Value:=if rightT n.data.toList l m=true then .agg #[.string n,.int .i64 l,.int .i64 (bits .or .i64 m 1)] else .agg #[.string n,.int .i64 l,.int .i64 m]
theorem item_any (n:ByteArray) (l m:Int) (w:World) (hn:n.size≤9223372036854775807):Calls Tryz.prog 180 #[.agg #[.string n,.int .i64 l,.int .i64 m]] w fun e w'=>e=.returned (itemV n l m)∧Below w.heap.size w w':=by
 have HR:=fun w=>Hd (wright_any n l m w hn)
 cases hr:rightT n.data.toList l m
 · have hv:Hid (itemV n l m=noT):=Hd (by simp [itemV,hr])
   rw [hr] at HR
   clear hr
   go_enter Tryz.func180,Tryz.ntmps180
   go_wp2_with fail
   refine (HR _).out.mono ?_
   rintro e w2 ⟨rfl,hb2⟩
   obtain ⟨b0,b1,HB⟩:=wtwo_new hb2
   obtain ⟨a0,a1,a2,g0,g1,g2⟩:=ty_cells b0
   obtain ⟨c0,c1,c2,f0,f1,f2⟩:=ty_cells b1
   have H0:=Hd b0
   have H1:=Hd b1
   have HB':=Hd HB
   clear b0 b1 HB hb2 HR
   go_wp2_with fail
   refine ret_ty rfl rfl rfl (ty_set H1.out) ⟨?_,set3 HB'.out (Nat.le_succ _) _ _ _⟩
   rw [hv.out]
   rfl
 · by_cases hl:l=0
   · have hv:Hid (itemV n l m=noT):=Hd (by simp [itemV,hl])
     subst hl
     rw [hr] at HR
     clear hr
     go_enter Tryz.func180,Tryz.ntmps180
     go_wp2_with fail
     refine (HR _).out.mono ?_
     rintro e w2 ⟨rfl,hb2⟩
     obtain ⟨b0,b1,HB⟩:=wtwo_new hb2
     obtain ⟨a0,a1,a2,g0,g1,g2⟩:=ty_cells b0
     obtain ⟨c0,c1,c2,f0,f1,f2⟩:=ty_cells b1
     have H0:=Hd b0
     have H1:=Hd b1
     have HB':=Hd HB
     clear b0 b1 HB hb2 HR
     go_wp2_with fail
     refine ret_ty rfl rfl rfl (ty_set H1.out) ⟨?_,set3 HB'.out (Nat.le_succ _) _ _ _⟩
     rw [hv.out]
     rfl
   · have hv:Hid (itemV n l m=yesT n (l - 1) (m / 2)):=Hd (by simp [itemV,hl,hr])
     obtain ⟨s1,s2,s3,s4⟩:=right_small hr
     have e0:(l == 0)=false:=by simpa using hl
     rw [hr] at HR
     clear hr
     go_enter Tryz.func180,Tryz.ntmps180
     go_wp2_with fail
     refine (HR _).out.mono ?_
     rintro e w2 ⟨rfl,hb2⟩
     obtain ⟨b0,b1,HB⟩:=wtwo_new hb2
     obtain ⟨a0,a1,a2,g0,g1,g2⟩:=ty_cells b0
     obtain ⟨c0,c1,c2,f0,f1,f2⟩:=ty_cells b1
     have H0:=Hd b0
     have H1:=Hd b1
     have HB':=Hd HB
     clear b0 b1 HB hb2 HR
     go_wp2_with fail
     refine ret_ty rfl rfl rfl (ty_set (wset_other (wset_other H1.out (by omega)) (by omega))) ⟨?_,set3 ((HB'.out.setCell (Nat.le_refl _) _).setCell (Nat.le_refl _) _) (Nat.le_succ _) _ _ _⟩
     rw [hv.out]
     rfl
theorem must_any (n:ByteArray) (l m:Int) (w:World) (hn:n.size≤9223372036854775807):Calls Tryz.prog 41 #[.agg #[.string n,.int .i64 l,.int .i64 m]] w fun e w'=>e=.returned (mustV n l m)∧Below w.heap.size w w':=by
 have HR:=fun w=>Hd (wright_any n l m w hn)
 cases hr:rightT n.data.toList l m
 · have hv:Hid (mustV n l m=.agg #[.string n,.int .i64 l,.int .i64 m]):=Hd (by simp [mustV,hr])
   rw [hr] at HR
   clear hr
   go_enter Tryz.func41,Tryz.ntmps41
   go_wp2_with fail
   refine (HR _).out.mono ?_
   rintro e w2 ⟨rfl,hb2⟩
   obtain ⟨b0,b1,HB⟩:=wtwo_new hb2
   obtain ⟨a0,a1,a2,g0,g1,g2⟩:=ty_cells b0
   obtain ⟨c0,c1,c2,f0,f1,f2⟩:=ty_cells b1
   have H0:=Hd b0
   have H1:=Hd b1
   have HB':=Hd HB
   clear b0 b1 HB hb2 HR
   go_wp2_with fail
   refine ret_ty1 rfl rfl rfl (ty_set H1.out) ⟨?_,set3 HB'.out (Nat.le_succ _) _ _ _⟩
   rw [hv.out]
 · have hv:Hid (mustV n l m=.agg #[.string n,.int .i64 l,.int .i64 (bits .or .i64 m 1)]):=Hd (by simp [mustV,hr])
   rw [hr] at HR
   clear hr
   go_enter Tryz.func41,Tryz.ntmps41
   go_wp2_with fail
   refine (HR _).out.mono ?_
   rintro e w2 ⟨rfl,hb2⟩
   obtain ⟨b0,b1,HB⟩:=wtwo_new hb2
   obtain ⟨a0,a1,a2,g0,g1,g2⟩:=ty_cells b0
   obtain ⟨c0,c1,c2,f0,f1,f2⟩:=ty_cells b1
   have H0:=Hd b0
   have H1:=Hd b1
   have HB':=Hd HB
   clear b0 b1 HB hb2 HR
   go_wp2_with fail
   refine ret_ty1 rfl rfl rfl (ty_set (wset_other H1.out (by omega))) ⟨?_,set3 (HB'.out.setCell (Nat.le_refl _) _) (Nat.le_succ _) _ _ _⟩
   rw [hv.out]
theorem OwnP.lt {P:Nat→Prop} {K:Nat} {w:World} {b:Nat} (h:OwnP P K w b):b < w.heap.size:=h.1
def FoundO (x:DefnT × Bool) (w:World) (e:Ending) (w':World):Prop:=
 ∃ c0 c1 c2 c3 c4 c5,e=.returned (.tuple #[.agg #[c0,c1,c2,c3,c4,c5],.bool x.2])∧TS w' (fun b=>b < w'.heap.size) (encDefn x.1) [c0,c1,c2,c3,c4,c5]∧Below w.heap.size w w'
structure FR (w:World) (c0 c1 c2:Value) (r:Obj) (W:World):Prop where
 low:Below w.heap.size w W
 size:w.heap.size+2≤W.heap.size
 box:W.heap[w.heap.size]? = some (.cells #[c0,c1,c2] 24 (0,0))
 res:W.heap[w.heap.size+1]? = some r
theorem FR.next {w W W':World} {c0 c1 c2:Value} {r:Obj} (h:FR w c0 c1 c2 r W) (hb:Below W.heap.size W W'):FR w c0 c1 c2 r W':=by
 have hs:=h.size
 exact ⟨h.low.trans (hb.mono h.low.size),Nat.le_trans h.size hb.size,(hb.block _ (by omega)).trans h.box,(hb.block _ (by omega)).trans h.res⟩
theorem FR.start (w:World) (c0 c1 c2:Value) (r:Obj):FR w c0 c1 c2 r ((w.alloc (.cells #[c0,c1,c2] 24)).alloc r):=
 ⟨tbl w _ _,by rw [two_size];exact Nat.le_refl _,(Below.heap_alloc (w.alloc (.cells #[c0,c1,c2] 24)) r w.heap.size (by simp)).trans (heap_alloc_new w (.cells #[c0,c1,c2] 24)),heap_two w _ _⟩
theorem Find_any (S:SchT) (n:ByteArray) (c0 c1 c2:Value) (w:World) (B:Nat) (hB:B≤w.heap.size) (hn:n.size≤9223372036854775807) (hz:SlimS S) (hS:TS w (fun b=>b < B) (encSch S) [c0,c1,c2]) :
  Calls Tryz.prog 18 #[.agg #[c0,c1,c2],.string n] w (FoundO (findD S.defs n) w):=by
 have F:=Hd (fun (wx:World) (hb:Below w.heap.size w wx)=>find_any S n c0 c1 c2 wx B (Nat.le_trans hB hb.size) hn (TS.low (hb.mono hB) hS))
 have FS:=Hd (find_slim hz.2 n)
 have HB:=Hd hB
 obtain ⟨A,k,e,_⟩:=sch_cells hS
 injection e with e0 e
 injection e with e1 e
 injection e with e2 e
 subst e0 e1 e2
 clear hB e hn hS hz
 generalize findD S.defs n=x at F FS ⊢
 have X0:=Hd (FR.start w (.slice A S.defs.length k) (.string S.query) (.string S.mutation) (.cells #[.int .i64 0,.string ⟨#[]⟩,.slice none 0 0,.slice none 0 0,.slice none 0 0,.slice none 0 0] 37))
 go_enter Tryz.func18,Tryz.ntmps18
 go_wp2_with fail
 refine (F.out _ X0.out.low).mono ?_
 rintro e w1 ⟨d0,d1,d2,d3,d4,d5,rfl,hT,hb1⟩
 have X1:=Hd (X0.out.next hb1)
 have T1:=Hd hT
 have D1:=Hd (fun o=>owndf_any x.1 d0 d1 d2 d3 d4 d5 (w1.alloc o) (fun b=>b < B) (fun b hb=>Nat.lt_of_lt_of_le hb (Nat.le_trans HB.out (Nat.le_trans X1.out.low.size (dbelow_new w1 o).size))) FS.out (TS.low ((dbelow_new w1 o).mono (Nat.le_trans HB.out X1.out.low.size)) T1.out))
 obtain ⟨Af,kf,Ax,kx,Ap,kp,Am,km,e,_⟩:=defn_cells hT
 simp only [List.cons.injEq,and_true] at e
 obtain ⟨rfl,rfl,rfl,rfl,rfl,rfl⟩:=e
 clear hT hb1 F X0
 go_wp2_with fail
 refine (D1.out _).mono ?_
 rintro e w2 ⟨A1,k1,A2,k2,A3,k3,A4,k4,rfl,hT2,hb2⟩
 have X2:=Hd ((X1.out.next (dbelow_new w1 _)).next hb2)
 have T2:=Hd hT2
 obtain ⟨⟨z0,z1,z2,z3,z4,z5⟩,v0,v1,v2,v3,v4,v5⟩:=six_cells X2.out.res
 have hs1:=X1.out.size
 clear hT2 hb2 D1 X1 T1
 go_wp2_with fail
 refine ret_d2 rfl rfl rfl (six_set X2.out.res) ?_
 refine ⟨_,_,_,_,_,_,rfl,TS.keep (fun b hb=>⟨by simpa [World.setCell] using hb.1,six_heap (hb.ne (g:=w.heap.size+1) (fun b h=>by have:=HB.out;omega) (by simp;omega))⟩) _ _ T2.out,six_low (b:=w.heap.size+1) X2.out.low (Nat.le_succ _)⟩
def zeroF:FieldT:=⟨⟨#[]⟩,[],⟨#[]⟩,0,0,[]⟩
def fieldL:List FieldT→ByteArray→FieldT × Bool
 | [],_=>(zeroF,false)
 | d :: t,n=>if d.name.toList == n.toList then (d,true) else fieldL t n
def tnameB:ByteArray:=⟨#[95,95,116,121,112,101,110,97,109,101]⟩
def strB:ByteArray:=⟨#[83,116,114,105,110,103]⟩
def fieldD (l:List DefnT) (t n:ByteArray):FieldT × Bool:=
 if (n.toList == [95,95,116,121,112,101,110,97,109,101])=true∧compD l t=true then (⟨tnameB,[],strB,0,1,[]⟩,true)
 else if isD l t [1,2]=true then fieldL (findD l t).1.fields n else (zeroF,false)
theorem fieldL_at {l:List FieldT} {q:Nat} {d:FieldT} {n:ByteArray} (h:l[q]? = some d):fieldL (l.drop q) n=if d.name.toList == n.toList then (d,true) else fieldL (l.drop (q+1)) n:=by
 have hq:q < l.length:=(List.getElem?_eq_some_iff.1 h).1
 have e:l[q]=d:=(List.getElem?_eq_some_iff.1 h).2
 rw [List.drop_eq_getElem_cons hq,e,fieldL]
theorem fld_none {w:World} {P:Nat→Prop} (n t:ByteArray) (m:Int) (hn:n.size≤9223372036854775807) (ht:t.size≤9223372036854775807):TS w P (encField ⟨n,[],t,0,m,[]⟩) [.string n,.slice none 0 0,.string t,.int .i64 0,.int .i64 m,.slice none 0 0]:=
 fld_ts (x:=⟨n,[],t,0,m,[]⟩) ⟨hn,ht⟩ (by simp) (by simp) (by rw [rowOf];unfold RowT;trivial) (by rw [rowOf];unfold RowT;trivial)
theorem ret_f2 {R:Ending→World→Prop} {fn:Func} {a:Act} {W:World} {c0 c1 c2 c3 c4 c5:Value} {p u b:Nat} (hf:fn.results=#[.cell p 46,.tmp u]) (h2:a.tmps.getD p undef=.pointer (some ⟨b,0,none⟩)) (hd:a.defers=[])
  (hc:W.heap[b]? = some (.cells #[c0,c1,c2,c3,c4,c5] 46 (0,0))) (hR:R (.returned (.tuple #[.agg #[c0,c1,c2,c3,c4,c5],a.tmps.getD u undef])) W):bodyPost Tryz.prog fn R .ret a W:=by
 have hl:(loadVar 46 ⟨b,0,none⟩).run Tryz.prog W=.ok (.agg #[c0,c1,c2,c3,c4,c5]) W:=
  run_loadVar_row W b 46 46 #[c0,c1,c2,c3,c4,c5] (0,0) _ hc Tryz.underlying46 rfl (by kernel_rfl)
 refine bodyPost_ret ?_ hd hR
 have h2':a.tmps[p]?.getD undef=.pointer (some ⟨b,0,none⟩):=by rw [← h2];simp
 simp [results,hf,h2',asAddr,hl]
def FoundF (x:FieldT × Bool) (w:World) (e:Ending) (w':World):Prop:=
 ∃ c0 c1 c2 c3 c4 c5,e=.returned (.tuple #[.agg #[c0,c1,c2,c3,c4,c5],.bool x.2])∧TS w' (fun b=>b < w'.heap.size) (encField x.1) [c0,c1,c2,c3,c4,c5]∧Below w.heap.size w w'
theorem must_str:mustV strB 0 0=.agg #[.string strB,.int .i64 0,.int .i64 1]:=by kernel_rfl
end Go.Proofs.YtaekdfcpbepepaaGreatDoor
