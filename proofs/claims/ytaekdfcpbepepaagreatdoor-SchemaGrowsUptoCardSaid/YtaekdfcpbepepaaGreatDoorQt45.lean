/- schema.Check and Rule at a schema that Light lets by. -/
import Derived.Test.YtaekdfcpbepepaaGreatDoorQt37
import Derived.Test.YtaekdfcpbepepaaGreatDoorQt40
import Derived.Test.YtaekdfcpbepepaaGreatDoorQt41
import Derived.Test.YtaekdfcpbepepaaGreatDoorQt44
set_option maxRecDepth 100000
set_option maxHeartbeats 8000000
namespace Go.Proofs.YtaekdfcpbepepaaGreatDoor
open Go.RowKit
structure OkS (S:SchT):Prop where
 mod:ModS S
 part:PartS S
 slim:SlimS S
 len:S.defs.length < maxLen
 names:∀ d,d ∈ S.defs→d.name.size≤maxLen
 faces:∀ d,d ∈ S.defs→d.faces.length < maxLen
 keys:2*S.defs.length+2*(allDP S.defs).length≤1099511627776
theorem mems_size:∀ (m:VM) (y:ByteArray × VT),y ∈ m.list→sizeV y.2≤sizeM m
 | .nil,y,h=>by simp [VM.list] at h
 | .cons n v t,y,h=>by
   rw [VM.list] at h
   rw [sizeM]
   rcases List.mem_cons.1 h with rfl|h
   · show sizeV v≤_
     omega
   · have:=mems_size t y h
     omega
theorem par_size {l:List VarT} {p:VarT} (h:p ∈ l):sizeV p.v+1≤parN l:=by
 have h1:parF p≤parN l:=sum_part h
 unfold parF at h1
 omega
theorem par_len (l:List VarT):l.length≤parN l:=by
 induction l with
 | nil=>exact Nat.zero_le _
 | cons p t ih =>
   have:parN (p :: t)=parF p+parN t:=by unfold parN;rw [List.map_cons,List.sum_cons]
   rw [this,List.length_cons]
   unfold parF
   omega
theorem txt_size {l:List ByteArray} {s:ByteArray} (h:s ∈ l):s.size+1≤txtN l:=by
 have h1:szN s≤txtN l:=sum_part h
 unfold szN at h1
 exact h1
theorem defs_len (D:List DefnT):D.length≤(D.map defN).sum∧(allDP D).length≤(D.map defN).sum:=by
 induction D with
 | nil=>exact ⟨Nat.zero_le _,Nat.zero_le _⟩
 | cons d t ih =>
   have h1:=par_len d.params
   have h2:(allDP (d :: t)).length=d.params.length+(allDP t).length:=by unfold allDP;rw [List.flatMap_cons,List.length_append]
   rw [List.map_cons,List.sum_cons,List.length_cons,h2]
   have h3:1+parN d.params≤defN d:=by unfold defN;omega
   omega
theorem okS_of {S:SchT} (hz:ligN S≤4000) (hs:SlimS S):OkS S:=by
 have hd:∀ d,d ∈ S.defs→defN d≤4000:=fun d hd=>Nat.le_trans (sum_part (f:=defN) hd) hz
 have hl:=defs_len S.defs
 have hz':(S.defs.map defN).sum≤4000:=hz
 refine ⟨fun d h=>⟨fun y hy=>?_,fun f hf=>⟨fun y hy=>?_,fun e he y hy=>?_⟩⟩,fun d h s hs=>?_,hs,by unfold maxLen;omega,fun d h=>?_,fun d h=>?_,by omega⟩
 · have h1:=hd d h
   have h2:=par_size hy
   unfold defN at h1
   omega
 · have h1:=hd d h
   have h2:=par_size hy
   have h3:fldN f≤(d.fields.map fldN).sum:=sum_part hf
   have h6:parN f.params+dirN f.dirs≤fldN f:=by unfold fldN;omega
   unfold defN at h1
   omega
 · have h1:=hd d h
   have h2:=mems_size e.2 y hy
   have h3:fldN f≤(d.fields.map fldN).sum:=sum_part hf
   have h4:dirF e≤dirN f.dirs:=sum_part he
   unfold dirF at h4
   rw [sizeV,sizeL] at h4
   have h5:(⟨#[]⟩:ByteArray).size=0:=rfl
   have h6:parN f.params+dirN f.dirs≤fldN f:=by unfold fldN;omega
   unfold defN at h1
   omega
 · have h1:=hd d h
   have h2:=txt_size hs
   unfold defN at h1
   omega
 · have h1:=hd d h
   unfold defN at h1
   unfold maxLen
   omega
 · have h1:=(hs.2 d h).1
   unfold maxLen
   omega
noncomputable def bS (S:SchT) (n:Nat):Bool:=
 if n=1 then rule1B S else if n=2 then rule2B S else if n=3 then rule3B S else if n=4 then rule4B S else if n=5 then rule5B S else if n=6 then rule6B S else if n=7 then rule7B S else if n=8 then rule8B S else rule9B S
noncomputable def checkS (S:SchT):Int:=checkN (bS S)
theorem rules_all (S:SchT) (ok:OkS S) (A:Option Addr) (k:Nat) (w:World) (B:Nat) (hB:B≤w.heap.size) (hS:TS w (fun b=>b < B) (encSch S) [.slice A S.defs.length k,.string S.query,.string S.mutation]) (hw:Laid5 w) :
   RulesC A S.defs.length k S.query S.mutation (bS S) w:=
 have up:∀ wx,Below w.heap.size w wx→B≤wx.heap.size:=fun _ hb=>Nat.le_trans hB hb.size
 have ts:∀ wx,Below w.heap.size w wx→TS wx (fun b=>b < B) (encSch S) [.slice A S.defs.length k,.string S.query,.string S.mutation]:=fun _ hb=>TS.low (hb.mono hB) hS
 ⟨fun wx hb=>rule1_any S ok.mod ok.part ok.len ok.names _ _ _ wx B (up wx hb) (ts wx hb) (hw.below hb),
  fun wx hb=>rule2_any S _ _ _ wx B (up wx hb) ok.slim (ts wx hb),
  fun wx hb=>rule3_any S ok.slim _ _ _ wx B (up wx hb) (ts wx hb),
  fun wx hb=>rule4_any S _ _ _ wx B (up wx hb) (ts wx hb),
  fun wx hb=>rule5_any S ok.faces _ _ _ wx B (up wx hb) ok.slim (ts wx hb),
  fun wx hb=>rule6_any S ok.slim _ _ _ wx B (up wx hb) (ts wx hb),
  fun wx hb=>rule7_any S _ _ _ wx B (up wx hb) ok.slim (ts wx hb),
  fun wx hb=>rule8_any S ok.slim ok.keys _ _ _ wx B (up wx hb) (ts wx hb),
  fun wx hb=>rule9_any S ok.mod ok.slim _ _ _ wx B (up wx hb) (ts wx hb) (hw.below hb)⟩
theorem check_all (S:SchT) (ok:OkS S) (c0 c1 c2:Value) (w:World) (B:Nat) (hB:B≤w.heap.size) (hS:TS w (fun b=>b < B) (encSch S) [c0,c1,c2]) (hw:Laid5 w) :
  Calls Tryz.prog 14 #[.agg #[c0,c1,c2]] w fun e w'=>e=.returned (.int .i64 (checkS S))∧Below w.heap.size w w':=by
 obtain ⟨A,k,e,hl,hR⟩:=sch_cells hS
 injection e with e0 e
 injection e with e1 e
 injection e with e2 e
 subst e0 e1 e2
 exact check_any A _ k _ _ (bS S) w (rules_all S ok A k w B hB hS hw)
theorem rule_all (S:SchT) (ok:OkS S) (n:Int) (c0 c1 c2:Value) (w:World) (B:Nat) (hB:B≤w.heap.size) (hS:TS w (fun b=>b < B) (encSch S) [c0,c1,c2]) (hw:Laid5 w) :
  Calls Tryz.prog 31 #[.agg #[c0,c1,c2],.int .i64 n] w fun e w'=>e=.returned (.bool (ruleN (bS S) n))∧Below w.heap.size w w':=by
 obtain ⟨A,k,e,hl,hR⟩:=sch_cells hS
 injection e with e0 e
 injection e with e1 e
 injection e with e2 e
 subst e0 e1 e2
 exact rule_any A _ k _ _ (bS S) n w w (rules_all S ok A k w B hB hS hw) (Below.refl _ _)
theorem firstN_zero (b:Nat→Bool) (_hb:checkN b=0):∀ f n,1≤n→f+n=10→firstN b f n=0→∀ k,n≤k→k < 10→b k=true:=by
 intro f
 induction f with
 | zero=>intro n _ h1 _ k hk hk2;omega
 | succ f ih =>
   intro n hn h1 h2 k hk hk2
   unfold firstN at h2
   split at h2
   · rename_i hbn
     by_cases e:k=n
     · rw [e];exact hbn
     · exact ih (n+1) (by omega) (by omega) h2 k (by omega) hk2
   · omega
theorem check_zero {S:SchT} (h:checkS S=0):rule1B S=true∧rule2B S=true∧rule3B S=true∧rule4B S=true∧rule5B S=true∧rule6B S=true∧rule7B S=true∧rule8B S=true∧rule9B S=true:=by
 have H:∀ k,1≤k→k < 10→bS S k=true:=firstN_zero (bS S) h 9 1 (by omega) (by omega) h
 exact ⟨H 1 (by omega) (by omega),H 2 (by omega) (by omega),H 3 (by omega) (by omega),H 4 (by omega) (by omega),H 5 (by omega) (by omega),H 6 (by omega) (by omega),H 7 (by omega) (by omega),H 8 (by omega) (by omega),H 9 (by omega) (by omega)⟩
theorem check_full {S:SchT} (h:∀ k,1≤k→k < 10→bS S k=true):checkS S=0:=by
 unfold checkS checkN
 simp only [firstN,h 1 (by omega) (by omega),h 2 (by omega) (by omega),h 3 (by omega) (by omega),h 4 (by omega) (by omega),h 5 (by omega) (by omega),h 6 (by omega) (by omega),h 7 (by omega) (by omega),h 8 (by omega) (by omega),h 9 (by omega) (by omega),if_true]
def exQ:ByteArray:=⟨#[81,117,101,114,121]⟩
def exA:ByteArray:=⟨#[97]⟩
def exI:ByteArray:=⟨#[73,110,116]⟩
def exS:SchT:=⟨[⟨1,exQ,[],[⟨exA,[],exI,0,0,[]⟩],[],[]⟩],exQ,⟨#[]⟩⟩
def exE:SchT:=⟨[],exQ,⟨#[]⟩⟩
theorem ex_slim:SlimS exS:=by
 refine ⟨by decide,fun d hd=>?_⟩
 simp only [exS,List.mem_cons,List.not_mem_nil,or_false] at hd
 subst hd
 refine ⟨by decide,by decide,by decide,by decide,fun f hf=>?_⟩
 simp only [List.mem_cons,List.not_mem_nil,or_false] at hf
 subst hf
 exact ⟨by decide,by decide,fun x hx=>by simp at hx⟩
theorem exE_slim:SlimS exE:=⟨by decide,fun d hd=>by simp [exE] at hd⟩
theorem ex_ok:OkS exS:=okS_of (by decide +kernel) ex_slim
theorem exE_ok:OkS exE:=okS_of (by decide +kernel) exE_slim
theorem ex_r1:rule1B exS=true:=by decide +kernel
theorem ex_r2:rule2B exS=true:=by decide +kernel
theorem ex_r3:rule3B exS=true:=by decide +kernel
theorem ex_r4:rule4B exS=true:=by decide +kernel
theorem ex_r5:rule5B exS=true:=by decide +kernel
theorem ex_r6:rule6B exS=true:=by decide +kernel
theorem ex_r7:rule7B exS=true:=by decide +kernel
theorem ex_r9:rule9B exS=true:=by decide +kernel
theorem ex_r8:rule8B exS=true:=rule8_yes (fun d hd=>by
 simp only [exS,List.mem_cons,List.not_mem_nil,or_false] at hd
 subst hd
 refine Acc.intro _ fun y hy=>?_
 have h:needL exS.defs exQ=[]:=by decide +kernel
 rw [h] at hy
 cases hy)
theorem ex_check:checkS exS=0:=check_full (fun k h1 h2=>by
 have h:k=1∨k=2∨k=3∨k=4∨k=5∨k=6∨k=7∨k=8∨k=9:=by omega
 rcases h with rfl|rfl|rfl|rfl|rfl|rfl|rfl|rfl|rfl
 · exact ex_r1
 · exact ex_r2
 · exact ex_r3
 · exact ex_r4
 · exact ex_r5
 · exact ex_r6
 · exact ex_r7
 · exact ex_r8
 · exact ex_r9)
theorem exE_check:checkS exE=2:=by
 have h1:bS exE 1=true:=by show rule1B exE=true;decide +kernel
 have h2:bS exE 2=false:=by show rule2B exE=false;decide +kernel
 unfold checkS checkN
 simp only [firstN,h1,h2,if_true]
 rfl
theorem ex_nine:ruleN (bS exS) 9=true:=ex_r9
theorem ex_ten:ruleN (bS exS) 10=false:=rfl
theorem ex_fields {W:World} {g B:Nat} (hB:g < B) (h0:W.heap[g]? = some (.cells #[.string exA,.slice none 0 0,.string exI,.int .i64 0,.int .i64 0,.slice none 0 0] 46 (0,0))) :
   RowT W (fun b=>b < B) (rowOf encField [⟨exA,[],exI,0,0,[]⟩]) (some ⟨g,0,none⟩):=by
 refine row_build (k:=6) (P:=fun b=>b < B) hB len_fld fun q x hx=>?_
 match q,hx with
 | 0,hx =>
   cases hx
   refine ⟨_,fld_none exA exI 0 (by decide) (by decide),fun j u hu=>?_⟩
   match j,hu with
   | 0,hu|1,hu|2,hu|3,hu|4,hu|5,hu=>cases hu;exact (cells_get h0 _).trans rfl
   | n+6,hu=>simp at hu
 | n+1,hx=>simp at hx
theorem ex_defs {W:World} {g B:Nat} (hB:g+2≤B) (h0:W.heap[g]? = some (.cells #[.string exA,.slice none 0 0,.string exI,.int .i64 0,.int .i64 0,.slice none 0 0] 46 (0,0)))
   (h1:W.heap[g+1]? = some (.cells #[.int .i64 1,.string exQ,.slice none 0 0,.slice (some ⟨g,0,none⟩) 1 1,.slice none 0 0,.slice none 0 0] 37 (0,0))) :
   RowT W (fun b=>b < B) (rowOf encDefn exS.defs) (some ⟨g+1,0,none⟩):=by
 refine row_build (k:=6) (P:=fun b=>b < B) (show g+1 < B by omega) (fun _=>rfl) fun q x hx=>?_
 match q,hx with
 | 0,hx =>
   cases hx
   refine ⟨_,defn_ts (x:=⟨1,exQ,[],[⟨exA,[],exI,0,0,[]⟩],[],[]⟩) (kf:=0) (kx:=1) (kp:=0) (km:=0) (by decide) (by decide) (by decide) (by decide) (by decide) (nil_row (A:=none)) (ex_fields (g:=g) (by omega) h0) (nil_row (A:=none)) (nil_row (A:=none)),fun j u hu=>?_⟩
   match j,hu with
   | 0,hu|1,hu|2,hu|3,hu|4,hu|5,hu=>cases hu;exact (cells_get h1 _).trans rfl
   | n+6,hu=>simp at hu
 | n+1,hx=>simp [exS] at hx
theorem ex_ts {W:World} {g B:Nat} (hB:g+2≤B) (h0:W.heap[g]? = some (.cells #[.string exA,.slice none 0 0,.string exI,.int .i64 0,.int .i64 0,.slice none 0 0] 46 (0,0)))
  (h1:W.heap[g+1]? = some (.cells #[.int .i64 1,.string exQ,.slice none 0 0,.slice (some ⟨g,0,none⟩) 1 1,.slice none 0 0,.slice none 0 0] 37 (0,0))) :
  TS W (fun b=>b < B) (encSch exS) [.slice (some ⟨g+1,0,none⟩) 1 1,.string exQ,.string ⟨#[]⟩]:=by
 simp only [encSch,TS,TP]
 exact ⟨_,_,rfl,⟨_,1,by rw [rowOf_len];rfl,by rw [rowOf_len];decide,ex_defs hB h0 h1⟩,_,_,rfl,⟨rfl,ok_sz (by decide)⟩,_,_,rfl,⟨rfl,ok_sz (by decide)⟩,rfl⟩
theorem exE_ts {W:World} {P:Nat→Prop} : TS W P (encSch exE) [.slice none 0 0,.string exQ,.string ⟨#[]⟩]:=by
 simp only [encSch,TS,TP]
 exact ⟨_,_,rfl,⟨none,0,rfl,by simp [exE,rowOf,TrL.len],nil_row⟩,_,_,rfl,⟨rfl,ok_sz (by decide)⟩,_,_,rfl,⟨rfl,ok_sz (by decide)⟩,rfl⟩
theorem three_new (w:World) (o1 o2 o3:Obj):(((w.alloc o1).alloc o2).alloc o3).heap[w.heap.size]? = some o1∧(((w.alloc o1).alloc o2).alloc o3).heap[w.heap.size+1]? = some o2∧(((w.alloc o1).alloc o2).alloc o3).heap[w.heap.size+1+1]? = some o3:=by
 have e1:(w.alloc o1).heap.size=w.heap.size+1:=by simp
 have e2:((w.alloc o1).alloc o2).heap.size=w.heap.size+1+1:=by simp
 have n1:=heap_alloc_new w o1
 have n2:=heap_alloc_new (w.alloc o1) o2
 have n3:=heap_alloc_new ((w.alloc o1).alloc o2) o3
 rw [e1] at n2
 rw [e2] at n3
 refine ⟨?_,?_,n3⟩
 · exact (Below.heap_alloc _ _ _ (by omega)).trans ((Below.heap_alloc _ _ _ (by omega)).trans n1)
 · exact (Below.heap_alloc _ _ _ (by omega)).trans n2
theorem three_below (w:World) (o1 o2 o3:Obj):Below w.heap.size w (((w.alloc o1).alloc o2).alloc o3):=by
 have h1:=(Below.refl w.heap.size w).alloc (Nat.le_refl _) o1
 have h2:=h1.alloc h1.size o2
 exact h2.alloc h2.size o3
structure ExK (w:World) (W:World):Prop where
 low:Below w.heap.size w W
 size:w.heap.size+3≤W.heap.size
 box:W.heap[w.heap.size+1+1]? = some (.cells #[.slice (some ⟨w.heap.size+1,0,none⟩) 1 1,.string exQ,.string ⟨#[]⟩] 24 (0,0))
 sch:TS W (fun b=>b < w.heap.size+2) (encSch exS) [.slice (some ⟨w.heap.size+1,0,none⟩) 1 1,.string exQ,.string ⟨#[]⟩]
theorem ExK.next {w W W':World} (h:ExK w W) (hb:Below W.heap.size W W'):ExK w W':=by
 have hs:=h.size
 exact ⟨h.low.trans (hb.mono h.low.size),Nat.le_trans h.size hb.size,(hb.block _ (by omega)).trans h.box,TS.low (hb.mono (by omega)) h.sch⟩
theorem exwake_any (w:World) (hw:Laid5 w):Calls Tryz.prog 12 #[] w fun e w'=>e=.returned (.bool true)∧Below w.heap.size w w':=by
 have X0:=Hd (fun (o1 o2 o3:Obj)=>three_new w o1 o2 o3)
 have B0:=Hd (fun (o1 o2 o3:Obj)=>three_below w o1 o2 o3)
 have HW:=Hd (fun (wx:World) (h:ExK w wx)=>hw.below h.low)
 clear hw
 go_enter Tryz.func12,Tryz.ntmps12
 go_wp2_with fail
 have hK:ExK w _:=⟨B0.out _ _ _,by simp,(X0.out _ _ _).2.2,ex_ts (g:=w.heap.size) (B:=w.heap.size+2) (Nat.le_refl _) (X0.out _ _ _).1 (X0.out _ _ _).2.1⟩
 refine (check_all exS ex_ok (.slice (some ⟨w.heap.size+1,0,none⟩) 1 1) (.string exQ) (.string ⟨#[]⟩) _ (w.heap.size+2) (Nat.le_trans (Nat.le_succ _) hK.size) hK.sch (HW.out _ hK)).mono ?_
 rw [ex_check]
 rintro e w1 ⟨rfl,hb1⟩
 have K1:=Hd (hK.next hb1)
 clear hK hb1 X0 B0
 obtain ⟨z0,z1,z2⟩:=three_cells K1.out.box
 go_wp2_with fail
 refine (check_all exE exE_ok (.slice none 0 0) (.string exQ) (.string ⟨#[]⟩) w1 w1.heap.size (Nat.le_refl _) exE_ts (HW.out _ K1.out)).mono ?_
 rw [exE_check]
 rintro e w2 ⟨rfl,hb2⟩
 have K2:=Hd (K1.out.next hb2)
 clear z0 z1 z2 hb2 K1
 obtain ⟨z0,z1,z2⟩:=three_cells K2.out.box
 go_wp2_with fail
 refine (rule_all exS ex_ok 9 (.slice (some ⟨w.heap.size+1,0,none⟩) 1 1) (.string exQ) (.string ⟨#[]⟩) _ (w.heap.size+2) (Nat.le_trans (Nat.le_succ _) K2.out.size) K2.out.sch (HW.out _ K2.out)).mono ?_
 rw [ex_nine]
 rintro e w3 ⟨rfl,hb3⟩
 have K3:=Hd (K2.out.next hb3)
 clear z0 z1 z2 hb3 K2
 obtain ⟨z0,z1,z2⟩:=three_cells K3.out.box
 go_wp2_with fail
 refine (rule_all exS ex_ok 10 (.slice (some ⟨w.heap.size+1,0,none⟩) 1 1) (.string exQ) (.string ⟨#[]⟩) _ (w.heap.size+2) (Nat.le_trans (Nat.le_succ _) K3.out.size) K3.out.sch (HW.out _ K3.out)).mono ?_
 rw [ex_ten]
 rintro e w4 ⟨rfl,hb4⟩
 have K4:=Hd (K3.out.next hb4)
 clear z0 z1 z2 hb4 K3
 go_wp2_with fail
 go_ret
 exact ⟨rfl,K4.out.low⟩
def ParsO (B base:Nat) (w:World) (V:Value) (ps:List VarT):Prop:=∃ xs,w.ownsRow base 60 10 V ps.length xs∧TLV w (fun b=>b < B) (rowOf encVar ps) xs
theorem ParsO.row {B base:Nat} {w:World} {V:Value} {ps:List VarT} (h:ParsO B base w V ps) (hB:B≤w.heap.size):∃ A c,V=.slice A ps.length c∧RowT w (fun b=>b < w.heap.size) (rowOf encVar ps) A:=by
 obtain ⟨xs,h1,h2⟩:=h
 obtain ⟨A,c,rfl⟩:=shape_own h1
 refine ⟨A,c,rfl,?_⟩
 cases ps with
 | nil=>exact nil_row
 | cons p t =>
   obtain ⟨g,c',e⟩:=ownsRow_succ (k:=t.length) h1
   injection e with e1 e2 e3
   subst e1
   have hc:=h1.cells (g:=g) rfl
   have hg:g < w.heap.size:=(h1.lt g rfl).2
   refine row_build (k:=10) (P:=fun b=>b < w.heap.size) hg len_par fun q x hx=>?_
   obtain ⟨cs,t1,t2⟩:=tlv_at len_par h2 hx
   refine ⟨cs,TS.keep (fun b hb=>⟨Nat.lt_of_lt_of_le hb hB,rfl⟩) _ _ t1,fun j u hj=>?_⟩
   have:=hc _ u (t2 j u hj)
   rwa [add_at] at this
theorem str_eq {a b:ByteArray} : (a.toList == b.toList)=true ↔ a=b:=by
 constructor
 · intro h
   have h:=eq_of_beq h
   rw [Lib.toList_data,Lib.toList_data] at h
   exact ByteArray.ext (Array.ext' h)
 · intro h
   rw [h]
   exact beq_self_eq_true _
theorem adds_all:∀ (l out:List ByteArray),(l.foldl addN out).length=out.length+l.length→l.Nodup∧∀ x,x ∈ l→x ∉ out
 | [],out,_=>⟨List.nodup_nil,fun x h=>by cases h⟩
 | s :: t,out,h=>by
   rw [List.foldl_cons] at h
   by_cases hs:hasN out s=true
   · have e:addN out s=out:=by unfold addN;rw [if_pos hs]
     rw [e] at h
     have:=adds_len t out
     rw [List.length_cons] at h
     omega
   · have e:addN out s=out++[s]:=by unfold addN;rw [if_neg hs]
     rw [e] at h
     have h1:(t.foldl addN (out++[s])).length=(out++[s]).length+t.length:=by
       rw [h,List.length_append,List.length_cons,List.length_cons,List.length_nil]
       omega
     obtain ⟨i1,i2⟩:=adds_all t (out++[s]) h1
     refine ⟨List.nodup_cons.2 ⟨fun hm=>i2 s hm (List.mem_append_right _ (List.mem_singleton.2 rfl)),i1⟩,fun x hx ho=>?_⟩
     rcases List.mem_cons.1 hx with rfl|hx
     · exact hs (hasN_iff.2 ho)
     · exact i2 x hx (List.mem_append_left _ ho)
theorem diff_nodup {xs:List ByteArray} (h:diffB xs=true):xs.Nodup:=by
 unfold diffB at h
 have h:=eq_of_beq h
 have h1:(onceL xs).length=xs.length:=by omega
 unfold onceL at h1
 exact (adds_all xs [] (by rw [h1];simp)).1
theorem adds_in:∀ (l out:List ByteArray) (s:ByteArray),s ∈ out∨s ∈ l→s ∈ l.foldl addN out
 | [],out,s,h=>by
   rcases h with h|h
   · exact h
   · cases h
 | x :: t,out,s,h=>by
   rw [List.foldl_cons]
   refine adds_in t _ s ?_
   by_cases hx:hasN out x=true
   · have e:addN out x=out:=by unfold addN;rw [if_pos hx]
     rw [e]
     rcases h with h|h
     · exact Or.inl h
     · rcases List.mem_cons.1 h with rfl|h
       · exact Or.inl (hasN_iff.1 hx)
       · exact Or.inr h
   · have e:addN out x=out++[x]:=by unfold addN;rw [if_neg hx]
     rw [e]
     rcases h with h|h
     · exact Or.inl (List.mem_append_left _ h)
     · rcases List.mem_cons.1 h with rfl|h
       · exact Or.inl (List.mem_append_right _ (List.mem_singleton.2 rfl))
       · exact Or.inr h
theorem once_in {xs:List ByteArray} {s:ByteArray} (h:s ∈ xs):s ∈ onceL xs:=adds_in xs [] s (Or.inr h)
theorem findL_self {l:List DefnT} {d:DefnT} (hn:(l.map fun x=>x.name).Nodup) (h:d ∈ l):findL l d.name=(d,true):=by
 induction l with
 | nil=>cases h
 | cons a t ih =>
   rw [List.map_cons,List.nodup_cons] at hn
   unfold findL
   rcases List.mem_cons.1 h with rfl|h
   · rw [if_pos (str_eq.2 rfl)]
   · have hne : ¬ (a.name.toList == d.name.toList)=true:=fun e=>hn.1 (by rw [str_eq.1 e];exact List.mem_map.2 ⟨d,h,rfl⟩)
     rw [if_neg hne]
     exact ih hn.2 h
theorem findL_is {l:List DefnT} {n:ByteArray} (h:(findL l n).2=true):(findL l n).1 ∈ l∧(findL l n).1.name=n:=by
 induction l with
 | nil=>cases h
 | cons a t ih =>
   unfold findL at h ⊢
   by_cases e:(a.name.toList == n.toList)=true
   · rw [if_pos e]
     exact ⟨List.mem_cons_self ..,str_eq.1 e⟩
   · rw [if_neg e] at h ⊢
     exact ⟨List.mem_cons_of_mem _ (ih h).1,(ih h).2⟩
theorem findL_not {l:List DefnT} {n:ByteArray} (h:(findL l n).2=false):(findL l n).1=zeroD:=by
 induction l with
 | nil=>rfl
 | cons a t ih =>
   unfold findL at h ⊢
   by_cases e:(a.name.toList == n.toList)=true
   · rw [if_pos e] at h
     cases h
   · rw [if_neg e] at h ⊢
     exact ih h
theorem findD_is {l:List DefnT} {n:ByteArray} (h:(findD l n).1.kind ≠ 0):(findD l n).2=true∧(findD l n).1 ∈ l∧(findD l n).1.name=n:=by
 unfold findD at h ⊢
 by_cases hs:scalarB n=true
 · rw [if_pos hs] at h
   exact absurd rfl h
 · rw [if_neg hs] at h ⊢
   cases e:(findL l n).2 with
   | false =>
     rw [findL_not e] at h
     exact absurd rfl h
   | true=>exact ⟨rfl,findL_is e⟩
theorem fieldL_self {l:List FieldT} {y:FieldT} (hn:(l.map fun x=>x.name).Nodup) (h:y ∈ l):fieldL l y.name=(y,true):=by
 induction l with
 | nil=>cases h
 | cons a t ih =>
   rw [List.map_cons,List.nodup_cons] at hn
   unfold fieldL
   rcases List.mem_cons.1 h with rfl|h
   · rw [if_pos (str_eq.2 rfl)]
   · have hne : ¬ (a.name.toList == y.name.toList)=true:=fun e=>hn.1 (by rw [str_eq.1 e];exact List.mem_map.2 ⟨y,h,rfl⟩)
     rw [if_neg hne]
     exact ih hn.2 h
theorem lastN_is {α:Type} {nmf:α→ByteArray} {l:List α} {s:ByteArray} {y:α} (h:lastN nmf l s=some y):y ∈ l∧nmf y=s:=by
 have key:∀ (l:List α) (r:Option α),l.foldl (fun r x=>if s=nmf x then some x else r) r=some y→r=some y∨(y ∈ l∧nmf y=s):=by
   intro l
   induction l with
   | nil=>intro r h;exact Or.inl h
   | cons a t ih =>
     intro r h
     rw [List.foldl_cons] at h
     rcases ih _ h with h|h
     · by_cases e:s=nmf a
       · rw [if_pos e] at h
         injection h with h
         subst h
         exact Or.inr ⟨List.mem_cons_self ..,e.symm⟩
       · rw [if_neg e] at h
         exact Or.inl h
     · exact Or.inr ⟨List.mem_cons_of_mem _ h.1,h.2⟩
 rcases key l none h with h|h
 · cases h
 · exact h
theorem scalar_leaf {n:ByteArray} (h:leafD [] n=false):scalarB n=false:=by
 cases e:scalarB n with
 | false=>rfl
 | true =>
   have:leafD [] n=true:=by
    unfold leafD isD findD
    rw [if_pos e]
    rfl
   rw [this] at h
   cases h
theorem res_tname {n:ByteArray} (h:resB n=false):(n.toList == [95,95,116,121,112,101,110,97,109,101])=false:=by
 cases e:(n.toList == [95,95,116,121,112,101,110,97,109,101]) with
 | false=>rfl
 | true =>
   have e:=eq_of_beq e
   rw [Lib.toList_data] at e
   unfold resB at h
   rw [e] at h
   revert h
   decide
section
variable {S:SchT}
theorem sound_names (h:rule1B S=true):(S.defs.map fun x=>x.name).Nodup:=by
 unfold rule1B at h
 rw [Bool.and_eq_true,Bool.and_eq_true] at h
 exact diff_nodup h.2.2
theorem sound_find (h:rule1B S=true) {d:DefnT} (hd:d ∈ S.defs):findD S.defs d.name=(d,true):=by
 have hn:=sound_names h
 unfold rule1B at h
 rw [Bool.and_eq_true] at h
 have h1:=List.all_eq_true.1 h.1 d hd
 unfold namOkB at h1
 have h2:leafD [] d.name=false:=by
  cases e:leafD [] d.name with
  | false=>rfl
  | true=>rw [e] at h1;simp at h1
 unfold findD
 rw [if_neg (by rw [scalar_leaf h2];decide)]
 exact findL_self hn hd
theorem soundS_kind (h:rule1B S=true) {d:DefnT} (hd:d ∈ S.defs) {s:ByteArray} (hs:s ∈ d.faces):d.kind=1∨d.kind=2:=by
 unfold rule1B at h
 rw [Bool.and_eq_true,Bool.and_eq_true] at h
 have h1:=h.2.1
 unfold schB at h1
 rw [Bool.and_eq_true,Bool.and_eq_true] at h1
 have h2:=List.all_eq_true.1 h1.2.2 d hd
 have hn:noB d.faces=false:=by
   unfold noB
   cases e:d.faces with
   | nil=>rw [e] at hs;cases hs
   | cons a t=>simp;omega
 unfold defB at h2
 rw [Bool.and_eq_true] at h2
 have h3:=h2.2
 by_cases k:((d.kind == 1) || (d.kind == 2))=true
 · rw [Bool.or_eq_true] at k
   rcases k with k|k
   · exact Or.inl (eq_of_beq k)
   · exact Or.inr (eq_of_beq k)
 · rw [if_neg k,hn] at h3
   simp at h3
theorem sound_face (h:rule5B S=true) {d:DefnT} (hd:d ∈ S.defs) {s:ByteArray} (hs:s ∈ d.faces):(findD S.defs s).1.kind=2:=by
 unfold rule5B at h
 have h1:=List.all_eq_true.1 h d hd
 unfold un5B at h1
 have h2:=List.all_eq_true.1 h1 s hs
 unfold face5B at h2
 rw [Bool.and_eq_true] at h2
 exact eq_of_beq h2.1
theorem bears_in {l:List DefnT} {d:DefnT} {f:ByteArray} (hd:d ∈ l) (h:bearsB d f=true):d.name ∈ bearersL l f:=by
 induction l with
 | nil=>cases hd
 | cons a t ih =>
   unfold bearersL
   rcases List.mem_cons.1 hd with rfl|hd
   · rw [if_pos h]
     exact List.mem_cons_self ..
   · split
     · exact List.mem_cons_of_mem _ (ih hd)
     · exact ih hd
theorem sound_meets (h1:rule1B S=true) (h5:rule5B S=true) {d:DefnT} (hd:d ∈ S.defs) {s:ByteArray} (hs:s ∈ d.faces) (hk:d.kind=1):meetsB S d.name (findD S.defs s).1.name=true:=by
 have k2:=sound_face h5 hd hs
 obtain ⟨f1,f2,f3⟩:=findD_is (by rw [k2];decide:(findD S.defs s).1.kind ≠ 0)
 rw [f3]
 have e1:possL S d.name=[d.name]:=by
  unfold possL
  rw [sound_find h1 hd,if_pos rfl,if_pos (by rw [hk];rfl)]
 have e2:possL S s=onceL (bearersL S.defs s):=by
  unfold possL
  rw [if_pos f1,if_neg (by rw [k2];decide),if_pos (by rw [k2];rfl)]
 have hb:bearsB d s=true:=by
  unfold bearsB
  rw [hk,hasN_iff.2 hs]
  rfl
 unfold meetsB anyN
 rw [e1,e2]
 exact List.any_eq_true.2 ⟨d.name,List.mem_singleton.2 rfl,hasN_iff.2 (once_in (bears_in hd hb))⟩
theorem sound_field (h1:rule1B S=true) (h3:rule3B S=true) (h5:rule5B S=true) (h6:rule6B S=true) {d:DefnT} (hd:d ∈ S.defs) {s:ByteArray} (hs:s ∈ d.faces) {g:FieldT} (hg:g ∈ (findD S.defs s).1.fields) :
   ∃ y,fieldD S.defs d.name g.name=(y,true)∧dsubB S y.tn y.tl y.tm g.tn g.tl g.tm=true:=by
 have k2:=sound_face h5 hd hs
 obtain ⟨f1,f2,f3⟩:=findD_is (by rw [k2];decide:(findD S.defs s).1.kind ≠ 0)
 have hu:=List.all_eq_true.1 h6 d hd
 unfold un6B at hu
 have hu:=List.all_eq_true.1 hu s hs
 unfold face6B at hu
 have hu:=List.all_eq_true.1 hu g hg
 unfold fit6F at hu
 unfold rule3B at h3
 rw [Bool.and_eq_true,Bool.and_eq_true] at h3
 have hnd:=List.all_eq_true.1 h3.1.1 d hd
 unfold nam3D at hnd
 rw [Bool.and_eq_true] at hnd
 have hdf:=diff_nodup hnd.1
 have hgr:=List.all_eq_true.1 h3.1.2 g (List.mem_flatMap.2 ⟨_,f2,hg⟩)
 unfold nam3F at hgr
 rw [Bool.and_eq_true] at hgr
 have hres:resB g.name=false:=by simpa using hgr.1
 cases e:lastN (fun x:FieldT=>x.name) d.fields g.name with
 | none=>rw [e] at hu;cases hu
 | some y =>
   rw [e] at hu
   have hu:(dsubB S y.tn y.tl y.tm g.tn g.tl g.tm && standB y.params g.params)=true:=hu
   rw [Bool.and_eq_true] at hu
   obtain ⟨y1,y2⟩:=lastN_is e
   refine ⟨y,?_,hu.1⟩
   have hi:isD S.defs d.name [1,2]=true:=by
    unfold isD
    rw [sound_find h1 hd]
    rcases soundS_kind h1 hd hs with k|k<;>(show (true && hasI [1,2] d.kind)=true;rw [k];rfl)
   unfold fieldD
   rw [if_neg (by rw [res_tname hres];simp),if_pos hi,sound_find h1 hd]
   have:=fieldL_self hdf y1
   rw [← y2]
   exact this
end
def FoundN (x:DefnT × Bool) (B:Nat) (w:World) (e:Ending) (w':World):Prop:=
 ∃ c0 c1 c2 c3 c4 c5,e=.returned (.tuple #[.agg #[c0,c1,c2,c3,c4,c5],.bool x.2])∧TS w' (fun b=>b < w'.heap.size∧(b < B∨w.heap.size≤b)) (encDefn x.1) [c0,c1,c2,c3,c4,c5]∧Below w.heap.size w w'
theorem FindN_any (S:SchT) (n:ByteArray) (c0 c1 c2:Value) (w:World) (B:Nat) (hB:B≤w.heap.size) (hn:n.size≤9223372036854775807) (hz:SlimS S) (hS:TS w (fun b=>b < B) (encSch S) [c0,c1,c2]) :
  Calls Tryz.prog 18 #[.agg #[c0,c1,c2],.string n] w (FoundN (findD S.defs n) B w):=by
 have F:=Hd (fun (wx:World) (hb:Below w.heap.size w wx)=>find_any S n c0 c1 c2 wx B (Nat.le_trans hB hb.size) hn (TS.low (hb.mono hB) hS))
 have FS:=Hd (find_slim hz.2 n)
 have HB:=Hd hB
 obtain ⟨A,k,e,_⟩:=sch_cells hS
 injection e with e0 e
 injection e with e1 e
 injection e with e2 e
 subst e0 e1 e2
 clear hB e hn hS hz
 generalize findD S.defs n=x at F FS ⊢
 have X0:=Hd (FR.start w (.slice A S.defs.length k) (.string S.query) (.string S.mutation) (.cells #[.int .i64 0,.string ⟨#[]⟩,.slice none 0 0,.slice none 0 0,.slice none 0 0,.slice none 0 0] 37))
 go_enter Tryz.func18,Tryz.ntmps18
 go_wp2_with fail
 refine (F.out _ X0.out.low).mono ?_
 rintro e w1 ⟨d0,d1,d2,d3,d4,d5,rfl,hT,hb1⟩
 have X1:=Hd (X0.out.next hb1)
 have T1:=Hd hT
 have D1:=Hd (fun o=>owndf_any x.1 d0 d1 d2 d3 d4 d5 (w1.alloc o) (fun b=>b < B) (fun b hb=>Nat.lt_of_lt_of_le hb (Nat.le_trans HB.out (Nat.le_trans X1.out.low.size (dbelow_new w1 o).size))) FS.out (TS.low ((dbelow_new w1 o).mono (Nat.le_trans HB.out X1.out.low.size)) T1.out))
 obtain ⟨Af,kf,Ax,kx,Ap,kp,Am,km,e,_⟩:=defn_cells hT
 simp only [List.cons.injEq,and_true] at e
 obtain ⟨rfl,rfl,rfl,rfl,rfl,rfl⟩:=e
 clear hT hb1 F X0
 go_wp2_with fail
 refine (D1.out _).mono ?_
 rintro e w2 ⟨A1,k1,A2,k2,A3,k3,A4,k4,rfl,hT2,hb2⟩
 have X2:=Hd ((X1.out.next (dbelow_new w1 _)).next hb2)
 have T2:=Hd hT2
 obtain ⟨⟨z0,z1,z2,z3,z4,z5⟩,v0,v1,v2,v3,v4,v5⟩:=six_cells X2.out.res
 have hs1:=X1.out.size
 clear hT2 hb2 D1 X1 T1
 go_wp2_with fail
 refine ret_d2 rfl rfl rfl (six_set X2.out.res) ?_
 refine ⟨_,_,_,_,_,_,rfl,TS.keep (fun b hb=>⟨⟨by simpa [World.setCell] using hb.1,hb.2.imp id (fun h=>Nat.le_trans (by have:=dbelow_new w1 (.cells #[.int .i64 x.1.kind,.string x.1.name,.slice Af x.1.faces.length kf,.slice Ax x.1.fields.length kx,.slice Ap x.1.parts.length kp,.slice Am x.1.params.length km] 37);have:=this.size;omega) h)⟩,six_heap (hb.ne (g:=w.heap.size+1) (fun b h=>by have:=HB.out;omega) (by simp;omega))⟩) _ _ T2.out,six_low (b:=w.heap.size+1) X2.out.low (Nat.le_succ _)⟩
end Go.Proofs.YtaekdfcpbepepaaGreatDoor
