/-
  An argument that is a key, opened, with what its texts need: its sets and counts are small.
-/
import Derived.Test.YtpnnchpaaopdcaaGreatDoorZB04
import Derived.Test.YtpnnchpaaopdcaaGreatDoorZB17
set_option linter.unusedVariables false
set_option linter.unusedSimpArgs false
namespace Go.Proofs.YtpnnchpaaopdcaaGreatDoor
open Go Go.ChangeShapes Go.WideShapes Go.ChangeAt Go.RowKit Go.Deep
theorem smallKs_of : ∀ {l : List KT}, (∀ k ∈ l, smallK k) → smallKs l
  | [], _ => by unfold smallKs; trivial
  | k :: r, h => by unfold smallKs; exact ⟨h k (by simp), smallKs_of fun a ha => h a (by simp [ha])⟩
set_option maxRecDepth 20000 in
theorem pairs_of_trod2 {H : Type} {enc : TypeId × Value → H} {W : World} {fuel : Nat} {c : Value} {x : DataW H × List MemPlace} (h : DataW.trod enc Tryz.prog W 0 (fun _ => true) true fuel 22 [c] = some x) :
    ∃ (p : Option Addr) (l : List (Nat × Nat)) (cap : Nat), c = .slice p l.length cap ∧ PairsAt W p l ∧ l.length ≤ maxLen ∧ Small l := by
  have k32 : Tryz.prog.cellsOf 23 = 1 := by kernel_rfl
  rcases rows_of_trod Tryz.underlying22 (C := 2) (show Tryz.prog.cellsOf 115 = 2 by kernel_rfl) (by decide) h with hc | ⟨a, len, cap, n, hc, _, hmx, hi⟩
  · exact ⟨none, [], 0, (List.cons.inj hc).1, fun i r hr => by simp at hr, Nat.zero_le _, fun x hx => by simp at hx⟩
  · obtain ⟨l, hl, hq⟩ := list_of (Q := fun i (q : Nat × Nat) => ∃ b off, some a = some ⟨b, off, none⟩ ∧ b < W.heap.size ∧ W.cell? ⟨b, off + i * 2, none⟩ = some (.int .u32 q.1) ∧ W.cell? ⟨b, off + i * 2 + 1, none⟩ = some (.int .u32 q.2) ∧ q.1 ≤ 4294967295 ∧ q.2 ≤ 4294967295) fun i hil => by
      obtain ⟨b, off, rfl, hb, cells, y, hlc, hcs, htr⟩ := hi i hil
      obtain ⟨xs, m, _, _, hlen, hxs, hf⟩ := DataW.trod_struct Tryz.underlying115 htr
      match cells, hlc with
      | [c0, c1], _ =>
        have h0 := hf 0 _ rfl
        have h1 := hf 1 _ rfl
        rw [List.getElem?_eq_getElem (by rw [hxs]; decide)] at h0
        rw [List.getElem?_eq_getElem (by rw [hxs]; decide)] at h1
        change DataW.trod enc Tryz.prog W 0 _ true m 23 (([c0, c1].drop 0).take (Tryz.prog.cellsOf 23)) = _ at h0
        change DataW.trod enc Tryz.prog W 0 _ true m 23 (([c0, c1].drop 1).take (Tryz.prog.cellsOf 23)) = _ at h1
        rw [k32] at h0 h1
        obtain ⟨m0, hm0, _, wf0⟩ := DataW.trod_int Tryz.underlying23 h0
        obtain ⟨m1, hm1, _, wf1⟩ := DataW.trod_int Tryz.underlying23 h1
        obtain rfl := List.cons.inj hm0 |>.1
        obtain rfl := List.cons.inj hm1 |>.1
        obtain ⟨u0, rfl, v0⟩ := u32_natK wf0
        obtain ⟨u1, rfl, v1⟩ := u32_natK wf1
        exact ⟨(u0, u1), b, off, rfl, hb, hcs 0 _ rfl, hcs 1 _ rfl, v0, v1⟩
    exact ⟨some a, l, cap, by rw [hl]; exact (List.cons.inj hc).1, fun i r hr => (by obtain ⟨b, off, h1, h2, h3, h4, _⟩ := hq i r hr; exact ⟨b, off, h1, h2, h3, h4⟩), by rw [hl]; exact hmx, fun x hx => (by obtain ⟨i, hi⟩ := List.mem_iff_getElem?.1 hx; obtain ⟨b, off, _, _, _, _, h5⟩ := hq i x hi; exact h5)⟩
set_option maxRecDepth 20000 in
theorem key_of_trod2 {H : Type} {enc : TypeId × Value → H} {W : World} : ∀ (fuel : Nat) (cs : List Value) (x : DataW H × List MemPlace), DataW.trod enc Tryz.prog W 0 (fun _ => true) true fuel 26 cs = some x → ∃ k : KT, k.cells = cs ∧ KeyC W k ∧ smallK k := by
  intro fuel
  induction fuel using Nat.strongRecOn with
  | _ fuel ih =>
    intro cs x h
    have ki : Tryz.prog.cellsOf 3 = 1 := by kernel_rfl
    have k8 : Tryz.prog.cellsOf 5 = 1 := by kernel_rfl
    have k32 : Tryz.prog.cellsOf 23 = 1 := by kernel_rfl
    have kS : Tryz.prog.cellsOf 9 = 1 := by kernel_rfl
    have kR : Tryz.prog.cellsOf 22 = 1 := by kernel_rfl
    have kK : Tryz.prog.cellsOf 24 = 1 := by kernel_rfl
    have kE : Tryz.prog.cellsOf 26 = 6 := by kernel_rfl
    obtain ⟨xs, m, hfu, _, hlen, hxs, hf⟩ := DataW.trod_struct Tryz.underlying26 h
    rw [kE] at hlen
    match cs, hlen with
    | [c0, c1, c2, c3, c4, c5], _ =>
      have h0 := hf 0 _ rfl
      have h1 := hf 1 _ rfl
      have h2 := hf 2 _ rfl
      have h3 := hf 3 _ rfl
      have h4 := hf 4 _ rfl
      have h5 := hf 5 _ rfl
      rw [List.getElem?_eq_getElem (by rw [hxs]; decide)] at h0 h1 h2 h3 h4 h5
      change DataW.trod enc Tryz.prog W 0 _ true m 3 (([c0, c1, c2, c3, c4, c5].drop 0).take (Tryz.prog.cellsOf 3)) = _ at h0
      change DataW.trod enc Tryz.prog W 0 _ true m 5 (([c0, c1, c2, c3, c4, c5].drop 1).take (Tryz.prog.cellsOf 5)) = _ at h1
      change DataW.trod enc Tryz.prog W 0 _ true m 22 (([c0, c1, c2, c3, c4, c5].drop 2).take (Tryz.prog.cellsOf 22)) = _ at h2
      change DataW.trod enc Tryz.prog W 0 _ true m 23 (([c0, c1, c2, c3, c4, c5].drop 3).take (Tryz.prog.cellsOf 23)) = _ at h3
      change DataW.trod enc Tryz.prog W 0 _ true m 9 (([c0, c1, c2, c3, c4, c5].drop 4).take (Tryz.prog.cellsOf 9)) = _ at h4
      change DataW.trod enc Tryz.prog W 0 _ true m 24 (([c0, c1, c2, c3, c4, c5].drop 5).take (Tryz.prog.cellsOf 24)) = _ at h5
      rw [ki] at h0
      rw [k8] at h1
      rw [kR] at h2
      rw [k32] at h3
      rw [kS] at h4
      rw [kK] at h5
      obtain ⟨kind, hm0, _, _⟩ := DataW.trod_int Tryz.underlying3 h0
      obtain ⟨m1, hm1, _, wf1⟩ := DataW.trod_int Tryz.underlying5 h1
      obtain ⟨sp, set, scap, hm2, hset, hsl, hsm⟩ := pairs_of_trod2 h2
      obtain ⟨m3, hm3, _, wf3⟩ := DataW.trod_int Tryz.underlying23 h3
      obtain ⟨s4, hm4, _, ws4⟩ := DataW.trod_string Tryz.underlying9 h4
      obtain rfl := List.cons.inj hm0 |>.1
      obtain rfl := List.cons.inj hm1 |>.1
      obtain rfl := List.cons.inj hm3 |>.1
      obtain rfl := List.cons.inj hm4 |>.1
      subst hm2
      obtain ⟨fl, rfl, hfl⟩ := u8_natK wf1
      obtain ⟨n, rfl, hn⟩ := u32_natK wf3
      rcases rows_of_trod Tryz.underlying24 (C := 6) kE (by decide) h5 with hc | ⟨a, len, cap, n5, hc, hn5, hmx, hi⟩
      · obtain rfl := (List.cons.inj hc).1
        refine ⟨.mk kind fl set n s4.data.toList [] sp scap none 0, by simp only [KT.cells, txt_data, List.length_nil], ?_, by unfold smallK; exact ⟨⟨hsm, hn⟩, by unfold smallKs; trivial⟩⟩
        unfold KeyC
        exact ⟨hfl, hn, ⟨hsl, Nat.zero_le _, by rw [ba_len]; exact ws4⟩, hset, by unfold KidsC; trivial⟩
      · obtain rfl := (List.cons.inj hc).1
        obtain ⟨kids, hkl, hq⟩ := list_of (Q := fun i (k : KT) => ∃ (b off : Nat), some a = some ⟨b, off, none⟩ ∧ b < W.heap.size ∧ (∀ q u, k.cells[q]? = some u → W.cell? ⟨b, off + (0 + i) * 6 + q, none⟩ = some u) ∧ KeyC W k ∧ smallK k) fun i hil => by
          obtain ⟨b, off, rfl, hb, cells, y, hlc, hcs, htr⟩ := hi i hil
          obtain ⟨k, rfl, hk⟩ := ih n5 (by omega) cells y htr
          exact ⟨k, b, off, rfl, hb, by rw [Nat.zero_add]; exact hcs, hk⟩
        refine ⟨.mk kind fl set n s4.data.toList kids sp scap (some a) cap, by simp only [KT.cells, txt_data, hkl], ?_, by
          unfold smallK
          refine ⟨⟨hsm, hn⟩, smallKs_of fun k hk => ?_⟩
          obtain ⟨i, hi⟩ := List.mem_iff_getElem?.1 hk
          obtain ⟨b, off, _, _, _, _, h6⟩ := hq i k hi
          exact h6⟩
        unfold KeyC
        exact ⟨hfl, hn, ⟨hsl, by rw [hkl]; exact hmx, by rw [ba_len]; exact ws4⟩, hset, kids_of kids (some a) 0 fun j k hj => (by obtain ⟨b, off, h1, h2, h3, h4, _⟩ := hq j k hj; exact ⟨b, off, h1, h2, h3, h4⟩)⟩
set_option maxRecDepth 20000 in
theorem open_key2 {H : Type} {enc : TypeId × Value → H} {W : World} {base : Nat} {v : Value} {d : DataW H} {p : List MemPlace} (hv : Value.okWide Tryz.prog W .any base 26 v) (h : DataW.Trod enc Tryz.prog W 0 (fun _ => true) true 26 v d p) :
    ∃ k : KT, v = k.val ∧ KeyC W k ∧ smallK k := by
  obtain ⟨cs, rfl, hcs⟩ := okWide_struct Tryz.underlying26 hv
  obtain ⟨fuel, hf⟩ := h
  have hcl : (Value.agg cs).cells = cs := rfl
  rw [hcl] at hf
  obtain ⟨k, h1, hk⟩ := key_of_trod2 fuel cs.toList _ hf
  exact ⟨k, by unfold KT.val; rw [h1], hk⟩
end Go.Proofs.YtpnnchpaaopdcaaGreatDoor
