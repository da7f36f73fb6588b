import Derived.Test.YthhbfghbpapklaaAp2
import Derived.Test.YthhbfghbpapklaaPMem4
namespace Go.Proofs.Ythhbfghbpapklaa
open Go.ChangeShapes Go.WideShapes Go.ChangeAt Go.RowKit

theorem own_conv {w : World} {B : Nat} {v : Value} {L : List UInt8} (h : w.ownsRow B 5 1 v L.length (cells8 L)) : Sem.run Try.prog (convert 65 9 v) w = .ok (.string (tx L)) w := by
  rcases h.2 with ⟨rfl, e⟩ | ⟨g, cap, cur, rfl, hB, hg, rest⟩
  · have e2 : L = [] := List.length_eq_zero_iff.1 e
    subst e2
    have h9 : Sem.run Try.prog (convert 65 9 (.slice none 0 0)) w = .ok (.string ⟨#[]⟩) w := by
      first | kernel_rfl | rfl | (go_simp; done) | simp [convert, go_sem]
    exact h9
  · have h2 : w.ownsRow B 5 1 (.slice (some ⟨g, 0, none⟩) L.length cap) L.length (cells8 L) := h
    refine run_convert_bytes_back (P := Try.prog) w 65 9 5 ⟨g, 0, none⟩ cap L Try.underlying65 Try.underlying5 Try.underlying9 ?_
    intro j hj
    exact h2.cells (g := g) rfl j _ (by simp [cells8, List.getElem?_eq_getElem hj])
set_option maxRecDepth 100000 in
set_option maxHeartbeats 4000000 in
theorem implGather_any {w : World} {v : Value} {zs : List BU} (s : ByteArray) (h : BUrow w v zs) (hl : zs.length ≤ 1048576) (hs : s.size ≤ 1048576) (hzb : ∀ z ∈ zs, i64B z.len) :
    Calls Try.prog 15 #[.string s, v] w fun e w' => e = .returned (.string (gaV s zs)) ∧ Below w.heap.size w w' := by
  have HK : Hid _ := fun u (hu : BUrow u v zs) => holdsBufs_any s hu hl hs hzb
  clear hzb
  obtain ⟨a1, c1, rfl⟩ := h.sl
  have HR : Hid (BUrow w (.slice a1 zs.length c1) zs) := h
  clear h
  cases hb : bsB s zs
  · rw [hb] at HK
    have E : Hid (gaV s zs = ⟨#[]⟩) := (show gaV s zs = ⟨#[]⟩ by unfold gaV; rw [hb]; rfl)
    clear hb
    go_enter Try.func15, Try.ntmps15
    go_wp2_with (go_at_call 37; refine Calls.mono (HK.out _ HR.out) ?_; rintro e u1 ⟨rfl, hu1⟩; have HB1 : Hid _ := hu1; clear hu1)
    go_ret
    exact ⟨sr_eq2 E.out.symm, HB1.out⟩
  rw [hb] at HK
  obtain ⟨hm, hn, hz⟩ := bsB_b hb
  obtain ⟨m1, m2, m3⟩ := memOk_b hm
  have E : Hid (gaV s zs = if (catB (gaL s zs zs.length)).length ≤ 65536 then tx (catB (gaL s zs zs.length)) else ⟨#[]⟩) := (show gaV s zs = _ by unfold gaV; rw [hb, if_pos rfl])
  obtain ⟨n, hN⟩ : ∃ n, s.size = n * 256 := ⟨s.size / 256, by omega⟩
  have HRM : Hid _ := fun x => readMemory_any s n x hN (by omega)
  have hzm : ∀ z ∈ zs, inW s.size z.pos z.len = true := fun z hq => by
    obtain ⟨j, hj, rfl⟩ := List.getElem_of_mem hq
    exact hz j hj
  have HGA : Hid _ := fun (x : World) (mb : Nat) (h1 : BUrow x (.slice a1 zs.length c1) zs) (h2 : MemAt x mb s) => gather_any h1 h2 hN m2 hzm hn
  have HE2 : Hid (gaV s zs = tx (if (catB (gaP s zs)).length ≤ 65536 then catB (gaP s zs) else [])) := by
    have e : gaL s zs zs.length = gaP s zs := by unfold gaL; rw [List.take_length]
    have h1 := E.out
    rw [e] at h1
    show _ = _
    rw [h1]
    split <;> rfl
  generalize (if (catB (gaP s zs)).length ≤ 65536 then catB (gaP s zs) else []) = LL at *
  clear hb hm hz m1 m2 m3 hs hN hn hzm E
  unfold mv at HRM HGA
  go_enter Try.func15, Try.ntmps15
  go_wp2_with (first | (go_at_call 37; refine Calls.mono (HK.out _ HR.out) ?_; rintro e u1 ⟨rfl, hu1⟩; have HB1 : Hid _ := hu1; clear hu1) | (go_at_call 31; refine Calls.mono (HRM.out _) ?_; rintro e u2 ⟨rfl, hM, hu, hsz⟩; have HM2 : Hid (MemAt u2 u1.heap.size s) := hM; have HB2 : Hid (Below w.heap.size w u2) := HB1.out.trans (hu.mono HB1.out.size); clear hu hM hsz) | (go_at_call 38; refine Calls.mono (HGA.out _ _ (HR.out.below HB2.out) HM2.out) ?_; rintro e u3 ⟨v3, L3, rfl, hL3, ho3, hu⟩; subst hL3; have hcv := own_conv ho3; have HB3 : Hid (Below w.heap.size w u3) := HB2.out.trans (hu.mono HB2.out.size); clear hu ho3))
  go_ret
  exact ⟨sr_eq2 HE2.out.symm, HB3.out⟩
end Go.Proofs.Ythhbfghbpapklaa
