/- What the listed variables give the walks over numbers of words. -/
import Derived.Test.YtcecgfijfnnpeaaDoorMtEnv
import Derived.Test.YtcecgfijfnnpeaaDoorMu
namespace Go.Proofs.YtcecgfijfnnpeaaDoor.Mt
open Go.RowKit
set_option maxRecDepth 100000

theorem numv_of_laid {W : World} {L : List (String × DataW Unit)} (h : laidMet Tryd.prog L W) (h1 : ("internal/strconv.uint64pow10", Rows.laid_internal_strconv_uint64pow10) ∈ L) (h2 : ("strconv.ErrRange", Rows.laid_strconv_ErrRange) ∈ L) (h3 : ("strconv.ErrSyntax", Rows.laid_strconv_ErrSyntax) ∈ L) : NumV W := by
  obtain ⟨a, ha⟩ := err_of_laid (g := 2) h h3 (by kernel_rfl) (by kernel_rfl)
  obtain ⟨b, hb⟩ := err_of_laid (g := 3) h h2 (by kernel_rfl) (by kernel_rfl)
  exact ⟨⟨_, _, ha⟩, ⟨_, _, hb⟩, tab_of_laid (g := 4) (t := 114) (e := 89) (n := 20) h h1 (by kernel_rfl) (by kernel_rfl) Tryd.underlying114 Tryd.underlying89 (by kernel_rfl) (by kernel_rfl)⟩
end Go.Proofs.YtcecgfijfnnpeaaDoor.Mt
