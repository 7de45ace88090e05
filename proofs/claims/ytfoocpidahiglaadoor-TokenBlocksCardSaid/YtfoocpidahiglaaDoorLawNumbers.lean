/- The walk of the law TokenNumbers. -/
import Derived.Test.YtfoocpidahiglaaDoorTAwake
namespace Go.Proofs.YtfoocpidahiglaaDoor
open Go.RowKit

theorem readS_cases (l : List UInt8) : (∃ ts, readS l = (ts, 0) ∧ readL l = some ts) ∨ ∃ er, readS l = ([], er) ∧ er ≠ 0 := by
  unfold readS
  split
  · exact .inr ⟨3, rfl, by omega⟩
  · split
    · exact .inr ⟨2, rfl, by omega⟩
    · cases h : readL l with
      | none => exact .inr ⟨2, rfl, by omega⟩
      | some ts => exact .inl ⟨ts, rfl, rfl⟩
theorem readS_some {l : List UInt8} {ts : List (Int × List UInt8)} (hl : l.length ≤ 8192) (hs : sourceB l = true) (hr : readL l = some ts) : readS l = (ts, 0) := by
  unfold readS
  rw [if_neg (by omega), if_neg (by rw [hs]; simp), hr]
theorem readS_none {l : List UInt8} (hl : l.length ≤ 8192) (hr : readL l = none) : readS l = ([], 2) := by
  unfold readS
  rw [if_neg (by omega), hr]
  split <;> rfl
namespace LNumbers

set_option maxRecDepth 100000 in
set_option maxHeartbeats 2000000 in
theorem walk (s : ByteArray) (w : World) (h3 : Laid3 w) : Calls Tryd.prog 3 #[.string s] w fun e w' => e = .returned (.bool true) ∧ Below w.heap.size w w' := by
  have K0 := K3.start h3
  by_cases hbig : 3000 < s.size
  · have hbig' : (3000 : Int) < (s.size : Int) := by omega
    have HA := Lib.hid (awake_t K0)
    clear K0 h3
    go_enter Tryd.func3, Tryd.ntmps3
    go_wp2_with fail
    refine HA.out.mono ?_
    rintro e w1 ⟨rfl, K⟩
    have HK := Lib.hid K
    clear K
    go_wp2_with fail
    go_ret
    exact ⟨rfl, HK.out.2⟩
  have hbig' : ¬ (3000 : Int) < (s.size : Int) := by omega
  have hl := len_data s
  by_cases hk : kindL s.data.toList = 0
  · -- no number
    rcases readS_cases s.data.toList with ⟨ts, hr, hrl⟩ | ⟨er, hr, her⟩
    · have H1 := Lib.hid (read_k K0 s (by omega) ts 0 hr)
      have hno := fun {k x} h => numbers_no hk (k := k) (x := x) h
      have HKI := Lib.hid hk
      clear hk K0 h3 hr
      by_cases hlen : ts.length = 1
      · obtain ⟨⟨k, x⟩, rfl⟩ : ∃ t, ts = [t] := by
          match ts, hlen with
          | [t], _ => exact ⟨t, rfl⟩
        have hn := hno hrl
        go_enter Tryd.func3, Tryd.ntmps3
        go_wp2_with fail
        refine H1.out.mono ?_
        rintro e w1 ⟨A, cap, rfl, hA, K1, _⟩
        have HA := Lib.hid hA
        have hcap : 1 ≤ cap := hA.2
        have H2 := Lib.hid (number_k K1 s (by omega) 0 HKI.out)
        clear hA K1
        go_wp2_with fail
        refine H2.out.mono ?_
        rintro e w2 ⟨rfl, K2, hb⟩
        obtain ⟨g, rfl, hg, c0, c1⟩ := (HA.out.on hb).one
        have H4 := Lib.hid (awake_t K2)
        clear hb K2
        by_cases hx : x = s.data.toList
        · have hxs : (⟨x.toArray⟩ : ByteArray) = s := mk_of hx.symm
          have hnk := hn hx
          have k3 : (k != 3) = true := by simp; omega
          have k4 : (k != 4) = true := by simp; omega
          rw [hxs] at c1
          clear hn hx hxs hnk hno hrl
          go_wp2_with fail
          refine H4.out.mono ?_
          rintro e w3 ⟨rfl, K⟩
          have HK := Lib.hid K
          clear K
          go_wp2_with fail
          go_ret
          exact ⟨rfl, HK.out.2⟩
        · have hxs : ((⟨x.toArray⟩ : ByteArray).toList == s.toList) = false := by
            have : (⟨x.toArray⟩ : ByteArray).toList ≠ s.toList := fun e => hx (by
              rw [Lib.toList_data, Lib.toList_data] at e
              exact e)
            simpa using this
          clear hn hx hno hrl
          generalize (⟨x.toArray⟩ : ByteArray) = X at *
          go_wp2_with fail
          refine H4.out.mono ?_
          rintro e w3 ⟨rfl, K⟩
          have HK := Lib.hid K
          clear K
          go_wp2_with fail
          go_ret
          exact ⟨rfl, HK.out.2⟩
      · have hlen' : ((ts.length : Int) != 1) = true := by simp; omega
        clear hno hrl
        go_enter Tryd.func3, Tryd.ntmps3
        go_wp2_with fail
        refine H1.out.mono ?_
        rintro e w1 ⟨A, cap, rfl, _, K1, _⟩
        have H2 := Lib.hid (number_k K1 s (by omega) 0 HKI.out)
        clear K1
        go_wp2_with fail
        refine H2.out.mono ?_
        rintro e w2 ⟨rfl, K2, _⟩
        have H4 := Lib.hid (awake_t K2)
        clear K2
        go_wp2_with fail
        refine H4.out.mono ?_
        rintro e w3 ⟨rfl, K⟩
        have HK := Lib.hid K
        clear K
        go_wp2_with fail
        go_ret
        exact ⟨rfl, HK.out.2⟩
    · have H1 := Lib.hid (read_k K0 s (by omega) [] er hr)
      have HKI := Lib.hid hk
      have her' : (er != 0) = true := by simpa using her
      clear hk K0 h3 hr her
      go_enter Tryd.func3, Tryd.ntmps3
      go_wp2_with fail
      refine H1.out.mono ?_
      rintro e w1 ⟨A, cap, rfl, _, K1, _⟩
      have H2 := Lib.hid (number_k K1 s (by omega) 0 HKI.out)
      clear K1
      go_wp2_with fail
      refine H2.out.mono ?_
      rintro e w2 ⟨rfl, K2, _⟩
      have H4 := Lib.hid (awake_t K2)
      clear K2
      go_wp2_with fail
      refine H4.out.mono ?_
      rintro e w3 ⟨rfl, K⟩
      have HK := Lib.hid K
      clear K
      go_wp2_with fail
      go_ret
      exact ⟨rfl, HK.out.2⟩
  · obtain ⟨y1, y2, y3⟩ := numbers_yes hk
    have H1 := Lib.hid (read_k K0 s (by omega) _ 0 (readS_some (by omega) y2 y1))
    obtain ⟨k, hkk⟩ : ∃ k, kindL s.data.toList = k := ⟨_, rfl⟩
    have HKI := Lib.hid hkk
    rw [hkk] at H1 y3
    clear hk K0 h3 hkk y1 y2
    go_enter Tryd.func3, Tryd.ntmps3
    go_wp2_with fail
    refine H1.out.mono ?_
    rintro e w1 ⟨A, cap, rfl, hA, K1, _⟩
    have HA := Lib.hid hA
    have hcap : 1 ≤ cap := hA.2
    have H2 := Lib.hid (number_k K1 s (by omega) k HKI.out)
    clear hA K1
    go_wp2_with fail
    refine H2.out.mono ?_
    rintro e w2 ⟨rfl, K2, hb⟩
    obtain ⟨g, rfl, hg, c0, c1⟩ := (HA.out.on hb).one
    rw [mk_of (rfl : s.data.toList = s.data.toList)] at c1
    have H4 := Lib.hid (awake_t K2)
    clear hb K2
    rcases y3 with rfl | rfl
    · go_wp2_with fail
      refine H4.out.mono ?_
      rintro e w3 ⟨rfl, K⟩
      have HK := Lib.hid K
      clear K
      go_wp2_with fail
      go_ret
      exact ⟨rfl, HK.out.2⟩
    · go_wp2_with fail
      refine H4.out.mono ?_
      rintro e w3 ⟨rfl, K⟩
      have HK := Lib.hid K
      clear K
      go_wp2_with fail
      go_ret
      exact ⟨rfl, HK.out.2⟩
end LNumbers
end Go.Proofs.YtfoocpidahiglaaDoor
