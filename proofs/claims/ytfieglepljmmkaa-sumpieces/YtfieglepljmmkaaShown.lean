import Derived.Test.YtfieglepljmmkaaUnhex
import Derived.Test.YtfieglepljmmkaaShaF
import Derived.Test.YtfieglepljmmkaaCrc
namespace Go.Proofs.Ytfieglepljmmkaa
open Go.RowKit
set_option linter.unusedVariables false

theorem byte_of {l : List Int} (h : l.all (fun n => decide (0 ≤ n ∧ n ≤ 255)) = true) : Byte l := by
  intro n hn
  have := List.all_eq_true.1 h n hn
  simpa using this
theorem constBytes (w : World) (C : Array Value) (n c g : Nat) (hg : g = w.heap.size) : (convert 22 22 (.slice (some ⟨g, 0, none⟩) n c)).run Try.prog (w.alloc (.cells C 5)) = .ok (.slice (some ⟨g, 0, none⟩) n c) (w.alloc (.cells C 5 (C.size, C.size + 1))) := by
  subst hg
  exact Lib.run_convert_bytes_const (P := Try.prog) w 22 5 C n c Try.underlying22 Try.underlying5
theorem conv {w : World} {ad : Option Addr} {len cap : Nat} {l : List Int} (h : Sl w ad len l) : (convert 22 9 (.slice ad len cap)).run Try.prog w = .ok (.string (strOfNums l)) w :=
  run_string_of 22 5 9 Try.underlying22 Try.underlying5 Try.underlying9 h
theorem slice27 (w : World) (b : Nat) : (Instr.sliceAt 27 (.pointer (some ⟨b, 0, none⟩)) none none none).run Try.prog w = .ok (.slice (some ⟨b, 0, none⟩) 32 32) w := by
  have e1 : Try.prog.arrayLen 27 = 32 := by kernel_rfl
  have e2 : Try.prog.elem 27 = 5 := by kernel_rfl
  have h5 : (sizeOf 5).run Try.prog w = .ok 1 w := by
    have : (Try.prog.info? 5).map (·.size) = some 1 := by kernel_rfl
    cases hq : Try.prog.info? 5 with
    | none => rw [hq] at this; cases this
    | some i =>
      rw [hq] at this
      simp only [Option.map_some, Option.some.injEq] at this
      simp [sizeOf, typeInfo, hq, this]
  have h := run_sliceAt_array_all (P := Try.prog) w 27 ⟨b, 0, none⟩ (by rw [e1, e2]; exact Try.underlying27)
  rw [h, e1, e2, h5]
  rfl
theorem zero27 : (Try.prog.info? 27).map (fun i => (i.zero.map (·.cells.size), i.size)) = some (some 32, 32) := by kernel_rfl
theorem digest_len (l : List Int) : (digest l).length = 32 := by
  unfold digest
  generalize absorb ((l ++ ending l.length).length / 64) (l ++ ending l.length) = S
  rfl
theorem digest_byte (l : List Int) : Byte (digest l) := by
  unfold digest
  generalize absorb ((l ++ ending l.length).length / 64) (l ++ ending l.length) = S
  intro n hn
  simp only [outSt, List.mem_flatMap] at hn
  obtain ⟨x, _, hn⟩ := hn
  exact outW_byte x n hn

def sABC : ByteArray := ⟨#[98, 97, 55, 56, 49, 54, 98, 102, 56, 102, 48, 49, 99, 102, 101, 97, 52, 49, 52, 49, 52, 48, 100, 101, 53, 100, 97, 101, 50, 50, 50, 51, 98, 48, 48, 51, 54, 49, 97, 51, 57, 54, 49, 55, 55, 97, 57, 99, 98, 52, 49, 48, 102, 102, 54, 49, 102, 50, 48, 48, 49, 53, 97, 100]⟩
def sNone : ByteArray := ⟨#[101, 51, 98, 48, 99, 52, 52, 50, 57, 56, 102, 99, 49, 99, 49, 52, 57, 97, 102, 98, 102, 52, 99, 56, 57, 57, 54, 102, 98, 57, 50, 52, 50, 55, 97, 101, 52, 49, 101, 52, 54, 52, 57, 98, 57, 51, 52, 99, 97, 52, 57, 53, 57, 57, 49, 98, 55, 56, 53, 50, 98, 56, 53, 53]⟩
theorem hexABC : strOfNums (hexL (digest [97, 98, 99])) = sABC := by kernel_rfl
theorem hexNone : strOfNums (hexL (digest [])) = sNone := by kernel_rfl
theorem crc9 : crc [49, 50, 51, 52, 53, 54, 55, 56, 57] = 3421780262 := by decide +kernel
theorem ok00ff : okL (numsB ⟨#[48, 48, 102, 102]⟩) = true := by decide +kernel
theorem un00ff : unL (numsB ⟨#[48, 48, 102, 102]⟩) = [0, 255] := by decide +kernel
theorem ok00fF : okL (numsB ⟨#[48, 48, 102, 70]⟩) = false := by decide +kernel
theorem str0255 : strOfNums [0, 255] = ⟨#[0, 255]⟩ := by decide

/-- Unhex of the two examples. -/
theorem unhex_1 (w : World) : Calls Try.prog 21 #[.string ⟨#[48, 48, 102, 102]⟩] w fun e w' => e = .returned (.tuple #[.slice (some ⟨w.heap.size, 0, none⟩) 2 2, .bool true]) ∧ Below w.heap.size w w' ∧ Sl w' (some ⟨w.heap.size, 0, none⟩) 2 [0, 255] := by
  refine (unhex_any ⟨#[48, 48, 102, 102]⟩ w (by decide)).mono ?_
  intro e w' h
  unfold UnP at h
  rw [ok00ff, un00ff] at h
  obtain ⟨rfl, hb, hB⟩ := h
  exact ⟨rfl, hb, sl_blk (hB rfl) (byte_of (by decide)) 2 rfl⟩
theorem unhex_2 (w : World) : Calls Try.prog 21 #[.string ⟨#[48, 48, 102, 70]⟩] w fun e w' => e = .returned (.tuple #[.slice none 0 0, .bool false]) ∧ Below w.heap.size w w' := by
  refine (unhex_any ⟨#[48, 48, 102, 70]⟩ w (by decide)).mono ?_
  intro e w' h
  unfold UnP at h
  rw [ok00fF] at h
  exact ⟨h.1, h.2.1⟩

theorem grown_below2 {w w1 w2 : World} {B p : Nat} (h : Below B w w1) (hg : w1.grownBy w2 (some p)) (hp : B ≤ p) (hB : B ≤ w1.heap.size) : Below B w w2 :=
  h.trans ⟨hg.os, hg.tape, hg.output, hg.size, fun k hk => hg.block k (by omega) (by simp; omega)⟩
theorem HS.below {w w' : World} {p : Nat} {m : List Int} (h : HS w p m) (hb : Below w.heap.size w w') : HS w' p m := by
  obtain ⟨h1, blk, h2, h3, h4, h5⟩ := h
  exact ⟨h1, blk, h2, h3, h4.later hb, h5⟩
theorem HS.lt {w : World} {p : Nat} {m : List Int} (h : HS w p m) : p < w.heap.size := by
  obtain ⟨h1, blk, h2, h3, h4, h5⟩ := h
  exact h4.lt

set_option maxRecDepth 100000 in
set_option maxHeartbeats 2000000 in
theorem shown_any (w : World) : Calls Try.prog 7 #[] w fun e w' => e = .returned (.bool true) ∧ Below w.heap.size w w' := by
  have kc := constBytes
  go_enter Try.func7, Try.ntmps7
  go_wp2_with fail
  refine (new_any w).mono ?_
  rintro e w1 ⟨p, rfl, hp, hH1, hB1⟩
  have HH1 := hidden hH1
  have HB1 := hidden hB1
  clear hH1 hB1
  go_wp2_with fail
  have l1 : Below w1.heap.size w1 (w1.alloc (.cells #[.int .u8 97] 5 (1, 2))) := (Below.refl _ _).alloc (Nat.le_refl _) _
  have k1 : Sl (w1.alloc (.cells #[.int .u8 97] 5 (1, 2))) (some ⟨w1.heap.size, 0, none⟩) 1 [97] := sl_lit w1 [97] (byte_of (by decide)) 5 (1, 2) 1 rfl _ rfl _ rfl
  have hz1 : (w1.alloc (.cells #[.int .u8 97] 5 (1, 2))).heap.size = w1.heap.size + 1 := by simp
  generalize (w1.alloc (.cells #[.int .u8 97] 5 (1, 2))) = w2 at *
  have hlt1 := HH1.out.lt
  refine (write_any p _ 1 1 [97] [] w2 k1 (by omega) (by omega) (fun x hx _ => by obtain rfl := Option.some.inj hx; simp; omega) (HH1.out.below l1) (by decide)).mono ?_
  rintro e w3 ⟨rfl, hH3, hg3⟩
  have HH3 : Hid (HS w3 p [97]) := hH3
  have HB3 : Hid (Below w.heap.size w w3) := grown_below2 (HB1.out.trans (l1.mono HB1.out.size)) hg3 hp (by have := HB1.out.size; omega)
  clear hH3 hg3 k1 l1 hz1 hlt1 HH1 HB1
  go_wp2_with fail
  have l1 : Below w3.heap.size w3 (w3.alloc (.cells #[.int .u8 98, .int .u8 99] 5 (2, 3))) := (Below.refl _ _).alloc (Nat.le_refl _) _
  have k1 : Sl (w3.alloc (.cells #[.int .u8 98, .int .u8 99] 5 (2, 3))) (some ⟨w3.heap.size, 0, none⟩) 2 [98, 99] := sl_lit w3 [98, 99] (byte_of (by decide)) 5 (2, 3) 2 rfl _ rfl _ rfl
  have hz1 : (w3.alloc (.cells #[.int .u8 98, .int .u8 99] 5 (2, 3))).heap.size = w3.heap.size + 1 := by simp
  generalize (w3.alloc (.cells #[.int .u8 98, .int .u8 99] 5 (2, 3))) = w4 at *
  have hlt1 := HH3.out.lt
  refine (write_any p _ 2 2 [98, 99] [97] w4 k1 (by omega) (by omega) (fun x hx _ => by obtain rfl := Option.some.inj hx; simp; omega) (HH3.out.below l1) (by decide)).mono ?_
  rintro e w5 ⟨rfl, hH5, hg5⟩
  have HH5 : Hid (HS w5 p [97, 98, 99]) := hH5
  have HB5 : Hid (Below w.heap.size w w5) := grown_below2 (HB3.out.trans (l1.mono HB3.out.size)) hg5 hp (by have := HB3.out.size; omega)
  clear hH5 hg5 k1 l1 hz1 hlt1 HH3 HB3
  go_wp2_with fail
  refine (sum_any p [97, 98, 99] w5 HH5.out (by decide)).mono ?_
  have hx1 := hexABC
  have hd1 := digest_len [97, 98, 99]
  have hd1b := digest_byte [97, 98, 99]
  generalize digest [97, 98, 99] = D1 at *
  rintro e w6 ⟨rfl, bl6⟩
  have HB6 : Hid (Below w.heap.size w w6) := HB5.out.trans (bl6.mono HB5.out.size)
  have hone1 := cells8_one D1
  have hl1 : (cells8 D1).length = 32 := by rw [cells8_length, hd1]
  have HX1 := hidden hx1
  have HD1 := hidden hd1
  have HD1B := hidden hd1b
  clear hx1 hd1 hd1b bl6 HH5 HB5
  obtain ⟨T1, hT1⟩ : ∃ T1, cells8 D1 = T1 := ⟨_, rfl⟩
  rw [hT1] at hone1 hl1 ⊢
  have HT1 := hidden hT1
  have HONE1 := hidden hone1
  have HL1 := hidden hl1
  clear hT1 hone1 hl1
  go_wp2_with (first
    | (refine wpList_new_var rfl rfl 27 2 (.tmp 20) rfl rfl rfl rfl 32 zero27 T1 HL1.out HONE1.out (by simp) rfl ?_; intro w7 B7 bl7 hz7))
  refine (of_any none 0 0 [] w7 (Sl.nil _ _) (by omega) (by omega) (by omega)).mono ?_
  have hx2 := hexNone
  have hd2 := digest_len []
  have hd2b := digest_byte []
  generalize digest [] = D2 at *
  rintro e w8 ⟨rfl, bl8⟩
  have hone2 := cells8_one D2
  have hl2 : (cells8 D2).length = 32 := by rw [cells8_length, hd2]
  have HX2 := hidden hx2
  have HD2 := hidden hd2
  have HD2B := hidden hd2b
  obtain ⟨gd, hgd⟩ : ∃ gd, w6.heap.size = gd := ⟨_, rfl⟩
  have hB78 := B7.later bl8
  have HB8 : Hid (Below w.heap.size w w8) := (HB6.out.trans (bl7.mono HB6.out.size)).trans (bl8.mono (by have := HB6.out.size; have := bl7.size; omega))
  rw [hgd] at hB78 ⊢
  have HG8 := hidden hB78
  clear hx2 hd2 hd2b B7 bl7 bl8 hz7 HB6 hB78 hgd
  obtain ⟨T2, hT2⟩ : ∃ T2, cells8 D2 = T2 := ⟨_, rfl⟩
  rw [hT2] at hone2 hl2 ⊢
  have HT2 := hidden hT2
  have HONE2 := hidden hone2
  have HL2 := hidden hl2
  clear hT2 hone2 hl2
  go_wp2_with (first
    | (refine wpList_new_var rfl rfl 27 3 (.tmp 21) rfl rfl rfl rfl 32 zero27 T2 HL2.out HONE2.out (by simp) rfl ?_; intro w9 B9 bl9 hz9))
  refine (unhex_1 w9).mono ?_
  rintro e w10 ⟨rfl, bl10, hs10⟩
  obtain ⟨ge, hge⟩ : ∃ ge, w8.heap.size = ge := ⟨_, rfl⟩
  have hE := B9.later bl10
  have hG := (HG8.out.later bl9).later bl10
  have hB := (HB8.out.trans (bl9.mono HB8.out.size)).trans (bl10.mono (by have := HB8.out.size; have := bl9.size; omega))
  rw [hge] at hE ⊢
  have HE10 := hidden hE
  have HG10 := hidden hG
  have HB10 := hidden hB
  have HS10 := hidden hs10
  clear B9 bl9 hz9 bl10 HG8 HB8 hE hG hB hs10 hge
  go_wp2_with fail
  refine (unhex_2 w10).mono ?_
  rintro e w11 ⟨rfl, bl11⟩
  have HE11 : Hid (Blk w11 ge 27 T2) := HE10.out.later bl11
  have HG11 : Hid (Blk w11 gd 27 T1) := HG10.out.later bl11
  have HB11 : Hid (Below w.heap.size w w11) := HB10.out.trans (bl11.mono HB10.out.size)
  have HS11 := hidden (HS10.out.later bl11)
  clear bl11 HE10 HG10 HB10 HS10
  go_wp2_with fail
  have l1 : Below w11.heap.size w11 (w11.alloc (.cells #[.int .u8 49, .int .u8 50, .int .u8 51, .int .u8 52, .int .u8 53, .int .u8 54, .int .u8 55, .int .u8 56, .int .u8 57] 5 (9, 10))) := (Below.refl _ _).alloc (Nat.le_refl _) _
  have k1 : Sl (w11.alloc (.cells #[.int .u8 49, .int .u8 50, .int .u8 51, .int .u8 52, .int .u8 53, .int .u8 54, .int .u8 55, .int .u8 56, .int .u8 57] 5 (9, 10))) (some ⟨w11.heap.size, 0, none⟩) 9 [49, 50, 51, 52, 53, 54, 55, 56, 57] := sl_lit w11 [49, 50, 51, 52, 53, 54, 55, 56, 57] (byte_of (by decide)) 5 (9, 10) 9 rfl _ rfl _ rfl
  generalize (w11.alloc (.cells #[.int .u8 49, .int .u8 50, .int .u8 51, .int .u8 52, .int .u8 53, .int .u8 54, .int .u8 55, .int .u8 56, .int .u8 57] 5 (9, 10))) = w12 at *
  refine (crc_any _ 9 9 _ w12 k1 (by omega)).mono ?_
  rw [crc9]
  rintro e w13 ⟨rfl, bl13⟩
  have HE13 : Hid (Blk w13 ge 27 T2) := (HE11.out.later l1).later bl13
  have HG13 : Hid (Blk w13 gd 27 T1) := (HG11.out.later l1).later bl13
  have HB13 : Hid (Below w.heap.size w w13) := (HB11.out.trans (l1.mono HB11.out.size)).trans (bl13.mono (by have := HB11.out.size; have := l1.size; omega))
  have HS13 := hidden ((HS11.out.later l1).later bl13)
  clear l1 k1 bl13 HE11 HG11 HB11 HS11 kc
  have hsl := slice27
  go_wp2_with fail
  refine (hex_any (some ⟨gd, 0, none⟩) 32 32 D1 w13 (sl_blk (t := 27) (by rw [HT1.out]; exact HG13.out) HD1B.out 32 HD1.out) (by omega)).mono ?_
  rw [HX1.out]
  rintro e w14 ⟨rfl, bl14⟩
  have HE14 : Hid (Blk w14 ge 27 T2) := HE13.out.later bl14
  have HB14 : Hid (Below w.heap.size w w14) := HB13.out.trans (bl14.mono HB13.out.size)
  have HS14 := hidden (HS13.out.later bl14)
  have hq1 : (sABC == sABC) = true := by decide +kernel
  clear bl14 HE13 HG13 HB13 HS13
  have hca : sABC = ⟨#[98, 97, 55, 56, 49, 54, 98, 102, 56, 102, 48, 49, 99, 102, 101, 97, 52, 49, 52, 49, 52, 48, 100, 101, 53, 100, 97, 101, 50, 50, 50, 51, 98, 48, 48, 51, 54, 49, 97, 51, 57, 54, 49, 55, 55, 97, 57, 99, 98, 52, 49, 48, 102, 102, 54, 49, 102, 50, 48, 48, 49, 53, 97, 100]⟩ := rfl
  have hcn : sNone = ⟨#[101, 51, 98, 48, 99, 52, 52, 50, 57, 56, 102, 99, 49, 99, 49, 52, 57, 97, 102, 98, 102, 52, 99, 56, 57, 57, 54, 102, 98, 57, 50, 52, 50, 55, 97, 101, 52, 49, 101, 52, 54, 52, 57, 98, 57, 51, 52, 99, 97, 52, 57, 53, 57, 57, 49, 98, 55, 56, 53, 50, 98, 56, 53, 53]⟩ := rfl
  rw [hca]
  clear hca hq1
  go_wp2_with fail
  refine (hex_any (some ⟨ge, 0, none⟩) 32 32 D2 w14 (sl_blk (t := 27) (by rw [HT2.out]; exact HE14.out) HD2B.out 32 HD2.out) (by omega)).mono ?_
  rw [HX2.out]
  rintro e w15 ⟨rfl, bl15⟩
  have HB15 : Hid (Below w.heap.size w w15) := HB14.out.trans (bl15.mono HB14.out.size)
  have k4 := conv (cap := 2) (HS14.out.later bl15)
  rw [str0255] at k4
  rw [hcn]
  clear bl15 HE14 HB14 HS14 hcn hsl
  go_wp2_with fail
  go_ret
  exact ⟨rfl, HB15.out⟩

end Go.Proofs.Ytfieglepljmmkaa
