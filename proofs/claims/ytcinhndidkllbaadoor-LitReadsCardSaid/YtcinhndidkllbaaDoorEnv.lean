/- From the listed variables to what the walks need. -/
import Derived.Test.YtcinhndidkllbaaDoorLaid2
import Derived.Test.YtcinhndidkllbaaDoorRows
import Derived.KernelRfl
namespace Go.Proofs.YtcinhndidkllbaaDoor
open Go.RowKit

theorem ptrs_of (aD aM aR aS : Addr) : Ptrs (.iface 129 (.pointer (some aD))) (.iface 129 (.pointer (some aM))) (.iface 129 (.pointer (some aR))) (.iface 129 (.pointer (some aS))) := by
  intro c
  unfold errOf
  split
  · exact ⟨_, rfl⟩
  split
  · exact ⟨_, rfl⟩
  split
  · exact ⟨_, rfl⟩
  · exact ⟨_, rfl⟩

theorem env_of {L : List (String × DataW Unit)} {W : World} (h : laidMet Tryd.prog L W)
    (m1 : ("inglenook/api.ErrDeep", Rows.laid_inglenook_api_ErrDeep) ∈ L) (m2 : ("inglenook/api.ErrMany", Rows.laid_inglenook_api_ErrMany) ∈ L) (m3 : ("inglenook/api.ErrRange", Rows.laid_inglenook_api_ErrRange) ∈ L) (m4 : ("inglenook/api.ErrShape", Rows.laid_inglenook_api_ErrShape) ∈ L)
    (m5 : ("inglenook/api.ErrSyntax", Rows.laid_inglenook_api_ErrSyntax) ∈ L) (m6 : ("inglenook/lit.names", Rows.laid_inglenook_lit_names) ∈ L) (m7 : ("internal/strconv.uint64pow10", Rows.laid_internal_strconv_uint64pow10) ∈ L) :
    ∃ eD eM eR eS aY, Ptrs eD eM eR eS ∧ Env W eD eM eR eS aY := by
  obtain ⟨aD, hD⟩ := err_of_laid (g := 2) h m1 (by kernel_rfl) (by kernel_rfl)
  obtain ⟨aM, hM⟩ := err_of_laid (g := 3) h m2 (by kernel_rfl) (by kernel_rfl)
  obtain ⟨aR, hR⟩ := err_of_laid (g := 4) h m3 (by kernel_rfl) (by kernel_rfl)
  obtain ⟨aS, hS⟩ := err_of_laid (g := 5) h m4 (by kernel_rfl) (by kernel_rfl)
  obtain ⟨aY, hY⟩ := err_of_laid (g := 0) h m5 (by kernel_rfl) (by kernel_rfl)
  exact ⟨_, _, _, _, aY, ptrs_of aD aM aR aS, ⟨⟨hD, hM, hR, hS⟩, names_of_laid h m6, tab_of_laid (g := 7) (t := 121) (e := 79) (n := 20) h m7 (by kernel_rfl) (by kernel_rfl) Tryd.underlying121 Tryd.underlying79 (by kernel_rfl) (by kernel_rfl), hY⟩⟩

end Go.Proofs.YtcinhndidkllbaaDoor
