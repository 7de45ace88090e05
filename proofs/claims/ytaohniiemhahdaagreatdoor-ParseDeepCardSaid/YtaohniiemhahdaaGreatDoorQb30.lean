/- The landed reader of documents, as plain functions: each of them is a reader that hangs on what is read. -/
import Derived.Test.YtaohniiemhahdaaGreatDoorQb29
namespace Go.Proofs.YtaohniiemhahdaaGreatDoor

/-- Enough is enough. -/
theorem read_fuel : ∀ f : Nat,
    (∀ fx d ts f', 2 * ts.length + 1 ≤ f → f ≤ f' → valR f' fx d ts = valR f fx d ts) ∧
    (∀ fx d acc ts f', 2 * ts.length + 2 ≤ f → f ≤ f' → itemsR f' fx d acc ts = itemsR f fx d acc ts) ∧
    (∀ fx d acc ts f', 2 * ts.length + 2 ≤ f → f ≤ f' → memsR f' fx d acc ts = memsR f fx d acc ts) ∧
    (∀ fx d ts f', 2 * ts.length + 1 ≤ f → f ≤ f' → memR f' fx d ts = memR f fx d ts) := by
  intro f
  induction f with
  | zero => exact ⟨fun _ _ _ _ h _ => by omega, fun _ _ _ _ _ h _ => by omega, fun _ _ _ _ _ h _ => by omega, fun _ _ _ _ h _ => by omega⟩
  | succ f ih =>
    obtain ⟨iv, il, im, ib⟩ := ih
    refine ⟨fun fx d ts f' h hf => ?_, fun fx d acc ts f' h hf => ?_, fun fx d acc ts f' h hf => ?_, fun fx d ts f' h hf => ?_⟩
    · obtain ⟨g, rfl⟩ : ∃ g, f' = g + 1 := ⟨f' - 1, by omega⟩
      rw [valR, valR]
      by_cases h1 : atB 1 oB ts = true
      · have := at_len h1
        rw [if_pos h1, if_pos h1, il _ _ _ _ g (by omega) (by omega)]
      · rw [if_neg h1, if_neg h1]
        by_cases h2 : atB 1 omB ts = true
        · have := at_len h2
          rw [if_pos h2, if_pos h2, im _ _ _ _ g (by omega) (by omega)]
        · rw [if_neg h2, if_neg h2]
    · obtain ⟨g, rfl⟩ : ∃ g, f' = g + 1 := ⟨f' - 1, by omega⟩
      rw [itemsR, itemsR, iv _ _ _ g (by omega) (by omega)]
      split
      · rfl
      · cases hv : valR f fx d ts with
        | error x => rfl
        | ok q =>
          obtain ⟨v, r⟩ := q
          have := (read_less f).1 _ _ _ _ _ hv
          exact il _ _ _ _ g (by omega) (by omega)
    · obtain ⟨g, rfl⟩ : ∃ g, f' = g + 1 := ⟨f' - 1, by omega⟩
      rw [memsR, memsR, ib _ _ _ g (by omega) (by omega)]
      split
      · rfl
      · cases hv : memR f fx d ts with
        | error x => rfl
        | ok q =>
          obtain ⟨⟨nm, v⟩, r⟩ := q
          have := (read_less f).2.2.2 _ _ _ _ _ hv
          exact im _ _ _ _ g (by omega) (by omega)
    · obtain ⟨g, rfl⟩ : ∃ g, f' = g + 1 := ⟨f' - 1, by omega⟩
      rw [memR, memR]
      cases hn : nameR ts with
      | none => rfl
      | some q =>
        obtain ⟨nm, r⟩ := q
        have := name_len hn
        simp only
        by_cases h1 : atB 1 colB r = true
        · have := at_len h1
          rw [if_pos h1, if_pos h1, iv _ _ _ g (by omega) (by omega)]
        · rw [if_neg h1, if_neg h1]
def itemsD (fx : Bool) (d : Nat) (acc : VL) (ts : List Tok) : Except Int (VL × List Tok) := itemsR (2 * ts.length + 2) fx d acc ts
def memsD (fx : Bool) (d : Nat) (acc : VM) (ts : List Tok) : Except Int (VM × List Tok) := memsR (2 * ts.length + 2) fx d acc ts
def errR {α : Type} (x : Int) : Rdr α := fun _ => .error x
def retR {α : Type} (a : α) : Rdr α := fun ts => .ok (a, ts)
def varV : Rdr VT := ifR 1 dolB (nmR (fun s => retR (.mk 8 0 s .nil .nil)) (errR 2)) oneR
theorem valD_eq (fx : Bool) (d : Nat) : valD fx d = ifR 1 oB (if d = 16 then errR 4 else bindR (itemsD fx (d + 1) .nil) fun l => retR (.mk 6 0 ⟨#[]⟩ l .nil)) (ifR 1 omB (if d = 16 then errR 4 else bindR (memsD fx (d + 1) .nil) fun m => retR (.mk 7 0 ⟨#[]⟩ .nil m)) (if fx = true then oneR else varV)) := by
  funext ts
  unfold valD ifR
  rw [valR]
  by_cases h1 : atB 1 oB ts = true
  · have := at_len h1
    rw [if_pos h1, if_pos h1]
    by_cases hd : d = 16
    · rw [if_pos hd, if_pos hd]; rfl
    · rw [if_neg hd, if_neg hd]
      unfold bindR itemsD
      rw [show 2 * ts.tail.length + 2 = 2 * ts.length by omega]
      cases itemsR (2 * ts.length) fx (d + 1) .nil ts.tail <;> rfl
  · rw [if_neg h1, if_neg h1]
    by_cases h2 : atB 1 omB ts = true
    · have := at_len h2
      rw [if_pos h2, if_pos h2]
      by_cases hd : d = 16
      · rw [if_pos hd, if_pos hd]; rfl
      · rw [if_neg hd, if_neg hd]
        unfold bindR memsD
        rw [show 2 * ts.tail.length + 2 = 2 * ts.length by omega]
        cases memsR (2 * ts.length) fx (d + 1) .nil ts.tail <;> rfl
    · rw [if_neg h2, if_neg h2]
      cases fx with
      | true => rfl
      | false =>
        rw [if_neg (by simp : ¬ (false = true))]
        unfold varV ifR nmR
        cases h3 : atB 1 dolB ts with
        | true =>
          simp only [Bool.not_false, Bool.and_self, if_true]
          cases nameR ts.tail <;> rfl
        | false => rfl
theorem itemsD_eq (fx : Bool) (d : Nat) (acc : VL) : itemsD fx d acc = ifR 1 cB (retR acc) (bindR (valD fx d) fun v => itemsD fx d (acc.snoc v)) := by
  funext ts
  unfold itemsD ifR
  rw [itemsR]
  split
  · rfl
  · unfold bindR valD
    cases hv : valR (2 * ts.length + 1) fx d ts with
    | error x => rfl
    | ok q =>
      obtain ⟨v, r⟩ := q
      have := (read_less _).1 _ _ _ _ _ hv
      exact (read_fuel _).2.1 _ _ _ _ _ (Nat.le_refl _) (by omega)
theorem memsD_eq (fx : Bool) (d : Nat) (acc : VM) : memsD fx d acc = ifR 1 cmB (retR acc) (bindR (memD fx d) fun p => memsD fx d (acc.snoc p.1 p.2)) := by
  funext ts
  unfold memsD ifR
  rw [memsR]
  split
  · rfl
  · unfold bindR memD
    cases hv : memR (2 * ts.length + 1) fx d ts with
    | error x => rfl
    | ok q =>
      obtain ⟨⟨nm, v⟩, r⟩ := q
      have := (read_less _).2.2.2 _ _ _ _ _ hv
      exact (read_fuel _).2.2.1 _ _ _ _ _ (Nat.le_refl _) (by omega)
theorem memD_eq (fx : Bool) (d : Nat) : memD fx d = nmR (fun nm => ifR 1 colB (bindR (valD fx d) fun v => retR (nm, v)) (errR 2)) (errR 2) := by
  funext ts
  unfold memD nmR ifR
  rw [memR]
  cases hn : nameR ts with
  | none => rfl
  | some q =>
    obtain ⟨nm, r⟩ := q
    have := name_len hn
    simp only
    by_cases h1 : atB 1 colB r = true
    · have := at_len h1
      rw [if_pos h1, if_pos h1]
      unfold bindR valD
      rw [(read_fuel (2 * r.tail.length + 1)).1 _ _ _ (2 * ts.length) (Nat.le_refl _) (by omega)]
      cases valR (2 * r.tail.length + 1) fx d r.tail <;> rfl
    · rw [if_neg h1, if_neg h1]; rfl
theorem str_val (fx : Bool) (d : Nat) : Str (valD fx d) := fun _ _ _ h => val_sfx h
theorem str_mem (fx : Bool) (d : Nat) : Str (memD fx d) := fun _ _ _ h => mem_sfx h
/-- A series. -/
theorem serR_fuel {α ρ : Type} {one : Rdr α} {add : ρ → α → ρ} {e : ByteArray} (H : Str one) : ∀ (f f' : Nat) (acc : ρ) (ts : List Tok), ts.length < f → ts.length < f' → serR one add e f acc ts = serR one add e f' acc ts
  | 0, _, _, _, h, _ => absurd h (Nat.not_lt_zero _)
  | _ + 1, 0, _, _, _, h => absurd h (Nat.not_lt_zero _)
  | f + 1, f' + 1, acc, ts, h, h' => by
    rw [serR, serR]
    cases ho : one ts with
    | error x => rfl
    | ok p =>
      obtain ⟨a, r⟩ := p
      simp only
      split
      · rfl
      · have := (H _ _ _ ho).2
        exact serR_fuel H f f' _ _ (by omega) (by omega)
def serD {α ρ : Type} (one : Rdr α) (add : ρ → α → ρ) (e : ByteArray) (acc : ρ) : Rdr ρ := fun ts => serR one add e (ts.length + 1) acc ts
theorem serD_eq {α ρ : Type} {one : Rdr α} {add : ρ → α → ρ} {e : ByteArray} (H : Str one) (acc : ρ) : serD one add e acc = bindR one fun a => ifR 1 e (retR (add acc a)) (serD one add e (add acc a)) := by
  funext ts
  unfold serD bindR ifR
  rw [serR]
  cases ho : one ts with
  | error x => rfl
  | ok p =>
    obtain ⟨a, r⟩ := p
    simp only
    have := (H _ _ _ ho).2
    rw [serR_fuel H ts.length (r.length + 1) _ _ this (by omega)]
    rfl
theorem argsR_eq (fx : Bool) (d : Nat) : argsR fx d = ifR 1 opB (serD (memD fx d) addM cpB .nil) (retR .nil) := by funext ts; rfl
/-- Directives. -/
theorem dirsF_fuel {fx : Bool} {d : Nat} : ∀ (f f' : Nat) (acc : List DirT) (ts : List Tok), ts.length < f → ts.length < f' → dirsF fx d f acc ts = dirsF fx d f' acc ts
  | 0, _, _, _, h, _ => absurd h (Nat.not_lt_zero _)
  | _ + 1, 0, _, _, _, h => absurd h (Nat.not_lt_zero _)
  | f + 1, f' + 1, acc, ts, h, h' => by
    rw [dirsF, dirsF]
    split
    · rename_i ha
      have h1 := (at_sfx ha).2
      cases hn : nameR ts.tail with
      | none => rfl
      | some q =>
        obtain ⟨n, r⟩ := q
        have h2 := (name_sfx hn).2
        simp only
        cases hg : argsR fx d r with
        | error x => rfl
        | ok q =>
          obtain ⟨m, r2⟩ := q
          have h3 := (args_sfx hg).length_le
          exact dirsF_fuel f f' _ _ (by omega) (by omega)
    · rfl
def dirsD (fx : Bool) (d : Nat) (acc : List DirT) : Rdr (List DirT) := fun ts => dirsF fx d (ts.length + 1) acc ts
theorem dirsD_eq (fx : Bool) (d : Nat) (acc : List DirT) : dirsD fx d acc = ifR 1 atmB (nmR (fun n => bindR (argsR fx d) fun m => dirsD fx d (acc ++ [(n, m)])) (errR 2)) (retR acc) := by
  funext ts
  unfold dirsD ifR nmR bindR
  rw [dirsF]
  split
  · rename_i ha
    have h1 := (at_sfx ha).2
    cases hn : nameR ts.tail with
    | none => rfl
    | some q =>
      obtain ⟨n, r⟩ := q
      have h2 := (name_sfx hn).2
      simp only
      cases hg : argsR fx d r with
      | error x => rfl
      | ok q =>
        obtain ⟨m, r2⟩ := q
        have h3 := (args_sfx hg).length_le
        exact dirsF_fuel _ _ _ _ (by omega) (by omega)
  · rfl
/-- Types. -/
def bangD (n : ByteArray) (l m : Nat) : Rdr (ByteArray × Nat × Nat) := ifR 1 bB (retR (n, l, m ||| 1)) (retR (n, l, m))
theorem bangD_eq (n : ByteArray) (l m : Nat) (ts : List Tok) : bangD n l m ts = .ok (bangR n l m ts) := by
  unfold bangD ifR bangR
  split
  · rfl
  · rfl
theorem typeR_eq0 : typeR 0 = ifR 1 oB (errR 4) (nmR (fun n => bangD n 0 0) (errR 2)) := by
  funext ts
  unfold ifR nmR
  by_cases h : atB 1 oB ts = true
  · rw [typeR_deep h, if_pos h]; rfl
  · have h' : atB 1 oB ts = false := by simpa using h
    rw [typeR_name h', if_neg h]
    cases nameR ts with
    | none => rfl
    | some q => obtain ⟨n, r⟩ := q; exact (bangD_eq n 0 0 r).symm
theorem typeR_eq (left : Nat) : typeR (left + 1) = ifR 1 oB (bindR (typeR left) fun t => ifR 1 cB (bangD t.1 (t.2.1 + 1) (2 * t.2.2)) (errR 2)) (nmR (fun n => bangD n 0 0) (errR 2)) := by
  funext ts
  unfold ifR nmR bindR
  by_cases h : atB 1 oB ts = true
  · rw [typeR_list h, if_pos h]
    cases typeR left ts.tail with
    | error x => rfl
    | ok q =>
      obtain ⟨⟨n, l, m⟩, r⟩ := q
      simp only
      split
      · exact (bangD_eq _ _ _ _).symm
      · rfl
  · have h' : atB 1 oB ts = false := by simpa using h
    rw [typeR_name h', if_neg h]
    cases nameR ts with
    | none => rfl
    | some q => obtain ⟨n, r⟩ := q; exact (bangD_eq n 0 0 r).symm
/-- Selections. -/
theorem inlineR_eq (S : SelsF) (d : Nat) (o : ByteArray) : inlineR S d o = bindR (dirsR false d) fun ds => bindR S fun s => retR (.mk 2 eB eB .nil ds o s) := by
  funext ts
  unfold inlineR bindR
  cases dirsR false d ts with
  | error x => rfl
  | ok q =>
    obtain ⟨ds, r⟩ := q
    simp only
    cases S r <;> rfl
theorem spreadR_eq (S : SelsF) (d : Nat) : spreadR S d = ifR 2 onB (nmR (fun o => inlineR S d o) (errR 2)) (nmR (fun n => bindR (dirsR false d) fun ds => retR (.mk 1 eB n .nil ds eB .nil)) (inlineR S d eB)) := by
  funext ts
  unfold spreadR ifR nmR bindR
  split
  · cases nameR ts.tail <;> rfl
  · cases nameR ts with
    | none => rfl
    | some q =>
      obtain ⟨n, r⟩ := q
      simp only
      cases dirsR false d r <;> rfl
theorem restR_eq (S : SelsF) (d : Nat) (al nm : ByteArray) : restR S d al nm = bindR (argsR false d) fun g => bindR (dirsR false d) fun ds => seeR (atB 1 omB) (bindR S fun s => retR (.mk 0 al nm g ds eB s)) (retR (.mk 0 al nm g ds eB .nil)) := by
  funext ts
  unfold restR bindR seeR
  cases argsR false d ts with
  | error x => rfl
  | ok q =>
    obtain ⟨g, r⟩ := q
    simp only
    cases dirsR false d r with
    | error x => rfl
    | ok q =>
      obtain ⟨ds, r2⟩ := q
      simp only
      split
      · cases S r2 <;> rfl
      · rfl
theorem fieldR_eq (S : SelsF) (d : Nat) : fieldR S d = nmR (fun n => ifR 1 colB (nmR (fun n2 => restR S d n n2) (errR 2)) (restR S d eB n)) (errR 2) := by
  funext ts
  unfold fieldR nmR ifR
  cases nameR ts with
  | none => rfl
  | some q =>
    obtain ⟨n, r⟩ := q
    simp only
    split
    · cases nameR r.tail <;> rfl
    · rfl
theorem selOne_eq (S : SelsF) (d : Nat) : selOne S d = ifR 1 dotB (spreadR S d) (fieldR S d) := by funext ts; rfl
theorem str_sel {S : SelsF} (sS : Str S) (d : Nat) : Str (selOne S d) := fun _ _ _ h => selOne_sfx (fun _ _ _ h => sS _ _ _ h) h
/-- Enough is enough. -/
theorem sel_less {S S' : SelsF} {d : Nat} {ts : List Tok} (h : ∀ tq, tq.length < ts.length → S tq = S' tq) : selOne S d ts = selOne S' d ts := by
  have hin : ∀ o tq, tq.length < ts.length → inlineR S d o tq = inlineR S' d o tq := by
    intro o tq hq
    unfold inlineR
    cases hd : dirsR false d tq with
    | error x => rfl
    | ok q =>
      obtain ⟨ds, r⟩ := q
      have := (dirs_sfx hd).length_le
      simp only
      rw [h r (by omega)]
  have hre : ∀ al nm tq, tq.length < ts.length → restR S d al nm tq = restR S' d al nm tq := by
    intro al nm tq hq
    unfold restR
    cases hg : argsR false d tq with
    | error x => rfl
    | ok q =>
      obtain ⟨g, r0⟩ := q
      have h0 := (args_sfx hg).length_le
      simp only
      cases hd : dirsR false d r0 with
      | error x => rfl
      | ok q =>
        obtain ⟨ds, r⟩ := q
        have := (dirs_sfx hd).length_le
        simp only
        rw [h r (by omega)]
  unfold selOne
  split
  · rename_i ha
    have h1 := (at_sfx ha).2
    unfold spreadR
    split
    · rename_i hb
      have h2 := (at_sfx hb).2
      cases hn : nameR ts.tail.tail with
      | none => rfl
      | some q =>
        obtain ⟨o, r⟩ := q
        have := (name_sfx hn).2
        exact hin _ _ (by omega)
    · cases hn : nameR ts.tail with
      | none => exact hin _ _ h1
      | some q => rfl
  · unfold fieldR
    cases hn : nameR ts with
    | none => rfl
    | some q =>
      obtain ⟨n, r⟩ := q
      have h1 := (name_sfx hn).2
      simp only
      split
      · rename_i hb
        have h2 := (at_sfx hb).2
        cases hm : nameR r.tail with
        | none => rfl
        | some q =>
          obtain ⟨n2, r2⟩ := q
          have := (name_sfx hm).2
          exact hre _ _ _ (by omega)
      · exact hre _ _ _ h1
theorem serR_same {α ρ : Type} {one one' : Rdr α} {add : ρ → α → ρ} {e : ByteArray} (H : Str one) : ∀ (f : Nat) (acc : ρ) (ts : List Tok), (∀ tq, tq.length ≤ ts.length → one tq = one' tq) → serR one add e f acc ts = serR one' add e f acc ts
  | 0, _, _, _ => rfl
  | f + 1, acc, ts, h => by
    rw [serR, serR, ← h ts (Nat.le_refl _)]
    cases ho : one ts with
    | error x => rfl
    | ok p =>
      obtain ⟨a, r⟩ := p
      have := (H _ _ _ ho).2
      simp only
      rw [serR_same H f _ r fun tq hq => h tq (by omega)]
theorem sels_fuel : ∀ f : Nat, (∀ d ts f', ts.length < f → f ≤ f' → selsR f d ts = selsR f' d ts) ∧ (∀ d ts f', ts.length < f → f ≤ f' → selR f d ts = selR f' d ts) := by
  intro f
  induction f with
  | zero => exact ⟨fun _ _ _ h _ => absurd h (Nat.not_lt_zero _), fun _ _ _ h _ => absurd h (Nat.not_lt_zero _)⟩
  | succ f ih =>
    obtain ⟨i1, i2⟩ := ih
    refine ⟨fun d ts f' h hf => ?_, fun d ts f' h hf => ?_⟩
    · obtain ⟨g, rfl⟩ : ∃ g, f' = g + 1 := ⟨f' - 1, by omega⟩
      rw [selsR, selsR]
      split
      · rename_i ha
        have h1 := (at_sfx ha).2
        split
        · rfl
        · exact serR_same (fun _ _ _ h => (sels_all f).2 _ _ _ _ h) _ _ _ fun tq hq => i2 _ _ g (by omega) (by omega)
      · rfl
    · obtain ⟨g, rfl⟩ : ∃ g, f' = g + 1 := ⟨f' - 1, by omega⟩
      rw [selR, selR]
      exact sel_less fun tq hq => i1 _ _ g (by omega) (by omega)
def selD (d : Nat) : Rdr SelT := fun ts => selR (ts.length + 1) d ts
theorem selD_eq (d : Nat) : selD d = selOne (selsD d) d := by
  funext ts
  unfold selD
  rw [selR]
  exact sel_less fun tq hq => ((sels_fuel _).1 _ _ _ (Nat.lt_succ_self _) (by omega)).symm
theorem selsD_eq (d : Nat) : selsD d = ifR 1 omB (if d = 16 then errR 4 else serD (selD (d + 1)) addS cmB .nil) (errR 2) := by
  funext ts
  unfold selsD ifR
  rw [selsR]
  split
  · rename_i ha
    have h1 := (at_sfx ha).2
    split
    · rfl
    · exact serR_same (fun _ _ _ h => (sels_all _).2 _ _ _ _ h) _ _ _ fun tq hq => ((sels_fuel _).2 _ _ _ (Nat.lt_succ_self _) (by omega)).symm
  · rfl
theorem str_sels (d : Nat) : Str (selsD d) := fun _ _ _ h => sels_sfx h
theorem str_selD (d : Nat) : Str (selD d) := by rw [selD_eq]; exact str_sel (str_sels d) d
/-- Variables. -/
def varA (d : Nat) (n : ByteArray) (t : ByteArray × Nat × Nat) : Rdr VarT := ifR 1 eqB (bindR (valD true d) fun v => retR ⟨n, t.1, t.2.1, t.2.2, true, v⟩) (retR ⟨n, t.1, t.2.1, t.2.2, false, zeroT⟩)
theorem varR_eq (d : Nat) : varR d = ifR 1 dolB (nmR (fun n => ifR 1 colB (bindR (typeR 4) fun t => varA d n t) (errR 2)) (errR 2)) (errR 2) := by
  funext ts
  unfold varR ifR nmR bindR varA ifR bindR
  split
  · cases nameR ts.tail with
    | none => rfl
    | some q =>
      obtain ⟨n, r⟩ := q
      simp only
      split
      · cases typeR 4 r.tail with
        | error x => rfl
        | ok q =>
          obtain ⟨t, r2⟩ := q
          simp only
          split
          · cases valD true d r2.tail <;> rfl
          · rfl
      · rfl
  · rfl
theorem str_var (d : Nat) : Str (varR d) := fun _ _ _ h => var_sfx h
theorem varsR_eq (d : Nat) : varsR d = ifR 1 opB (serD (varR d) addL cpB []) (retR []) := by funext ts; rfl
/-- Operations, fragments. -/
theorem opRest_eq (kind : Int) (d : Nat) (nm : ByteArray) : opRest kind d nm = bindR (varsR d) fun vs => bindR (dirsR true d) fun ds => bindR (selsD d) fun s => retR ⟨kind, nm, vs, ds, s⟩ := by
  funext ts
  unfold opRest bindR
  cases varsR d ts with
  | error x => rfl
  | ok q =>
    obtain ⟨vs, r⟩ := q
    simp only
    cases dirsR true d r with
    | error x => rfl
    | ok q =>
      obtain ⟨ds, r2⟩ := q
      simp only
      cases selsD d r2 <;> rfl
theorem opR_eq (kind : Int) (d : Nat) : opR kind d = nmR (fun n => opRest kind d n) (opRest kind d eB) := by
  funext ts
  unfold opR nmR
  cases nameR ts <;> rfl
theorem fragR_eq (d : Nat) : fragR d = seeR (atB 2 onB) (errR 2) (nmR (fun n => ifR 2 onB (nmR (fun o => bindR (dirsR true d) fun ds => bindR (selsD d) fun s => retR ⟨n, o, ds, s⟩) (errR 2)) (errR 2)) (errR 2)) := by
  funext ts
  unfold fragR seeR nmR ifR bindR
  split
  · rfl
  · cases nameR ts with
    | none => rfl
    | some q =>
      obtain ⟨n, r⟩ := q
      simp only
      split
      · cases nameR r.tail with
        | none => rfl
        | some q =>
          obtain ⟨o, r2⟩ := q
          simp only
          cases dirsR true d r2 with
          | error x => rfl
          | ok q =>
            obtain ⟨ds, r3⟩ := q
            simp only
            cases selsD d r3 <;> rfl
      · rfl
/-- What ends with selections: a reader, whatever comes behind. -/
structure Tailed {α : Type} (p : Rdr α) : Prop where
  str : Str p
  par : ∀ n, ParN n p
  nil : Nil p
  free : ∀ n, Free n p
/-- A definition alone. -/
inductive DefT where
  | op (x : OpT)
  | frag (x : FragT)
def oneD : Rdr DefT :=
  seeR (atB 1 omB) (bindR (selsD 0) fun s => retR (.op ⟨0, eB, [], [], s⟩)) (ifR 2 queryB (bindR (opR 0 0) fun o => retR (.op o)) (ifR 2 mutB (bindR (opR 1 0) fun o => retR (.op o)) (ifR 2 fragB (bindR (fragR 0) fun o => retR (.frag o)) (errR 2))))
def addD (D : DocT) : DefT → DocT
  | .op x => ⟨D.ops ++ [x], D.frags⟩
  | .frag x => ⟨D.ops, D.frags ++ [x]⟩
theorem defR_eq (D : DocT) : defR D = bindR oneD fun x => retR (addD D x) := by
  funext ts
  unfold defR bindR oneD seeR ifR bindR
  split
  · cases selsD 0 ts <;> rfl
  · split
    · cases opR 0 0 ts.tail <;> rfl
    · split
      · cases opR 1 0 ts.tail <;> rfl
      · split
        · cases fragR 0 ts.tail <;> rfl
        · rfl
/-- All definitions. -/
def defsF : Nat → List Tok → Except Int (List DefT)
  | 0, _ => .error 2
  | f + 1, ts =>
    match oneD ts with
    | .error x => .error x
    | .ok (x, r) => if r.isEmpty = true then .ok [x] else match defsF f r with | .error e => .error e | .ok l => .ok (x :: l)
theorem docF_eq : ∀ (f : Nat) (D : DocT) (ts : List Tok), docF f D ts = (match defsF f ts with | .error e => .error e | .ok l => .ok (l.foldl addD D))
  | 0, _, _ => rfl
  | f + 1, D, ts => by
    rw [docF, defsF, defR_eq]
    unfold bindR
    cases oneD ts with
    | error x => rfl
    | ok q =>
      obtain ⟨x, r⟩ := q
      show (if r.isEmpty = true then .ok (addD D x) else docF f (addD D x) r) = _
      simp only
      split
      · rfl
      · rw [docF_eq f]
        cases defsF f r <;> rfl
def defsD (ts : List Tok) : Except Int (List DefT) := defsF (ts.length + 1) ts
theorem docR_eq (ts : List Tok) : docR ts = (match defsD ts with | .error e => .error e | .ok l => .ok (l.foldl addD ⟨[], []⟩)) := docF_eq _ _ _
end Go.Proofs.YtaohniiemhahdaaGreatDoor
